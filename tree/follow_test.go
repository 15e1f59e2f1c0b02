package tree_test

import (
	"fmt"
	"maps"
	"math/bits"
	"math/rand"
	"slices"
	"strings"
	"testing"

	"wapentake/api"
	"wapentake/path"
	"wapentake/tree"
)

// plainTree is a tree by the chapter's words: leaves by their paths, in no shape at all.
type plainTree map[string]api.Leaf

// which is the leaves whose paths are in, in order.
func (m plainTree) which(in func(string) bool) []api.Leaf {
	var out []api.Leaf
	for _, p := range slices.SortedFunc(maps.Keys(m), path.Compare) {
		if in(p) {
			out = append(out, m[p])
		}
	}
	return out
}

// tellsAs holds all that a tree tells of the texts against a plain one.
func tellsAs(t *testing.T, x *tree.Tree, m plainTree, texts []string) {
	t.Helper()
	if x.Len() != len(m) {
		t.Fatalf("Len %d, want %d", x.Len(), len(m))
	}
	same(t, "All", x.All(), m.which(func(string) bool { return true }))
	for _, a := range texts {
		want, there := m[a]
		if l, ok := x.Get(a); ok != there || l != want {
			t.Fatalf("Get of %q: %v, %v, want %v", a, l, ok, want)
		}
		same(t, "Under "+a, x.Under(a), m.which(func(p string) bool { return path.Within(a, p) }))
		for _, b := range texts {
			same(t, "Range "+a+" to "+b, x.Range(a, b), m.which(func(p string) bool {
				return path.Compare(p, a) >= 0 && (b == "" || path.Compare(p, b) < 0)
			}))
		}
	}
	if t.Failed() {
		t.FailNow()
	}
}

// flat holds a tree's depth against how many leaves it has: the chapter's bound, and what so many leaves need at least.
func flat(t *testing.T, x *tree.Tree) {
	t.Helper()
	if 1<<(x.Depth()/2) > x.Len()+1 || x.Depth() < bits.Len(uint(x.Len())) || x.Depth() > x.Len() {
		t.Fatalf("%d leaves stand %d deep", x.Len(), x.Depth())
	}
}

// orders hands out each order of the list.
func orders(l []string, do func([]string)) {
	if len(l) == 0 {
		do(nil)
		return
	}
	for i := range l {
		rest := slices.Delete(slices.Clone(l), i, i+1)
		orders(rest, func(o []string) { do(append([]string{l[i]}, o...)) })
	}
}

// P3.3: in whatever order leaves are put, trees that have the same leaves tell the same; each is flat, on the way, too.
func TestEveryOrder(t *testing.T) {
	names := []string{"", "a", "a/b", "a-b", "ab", "b", "b/c"}
	texts := append(slices.Clone(names), "a/", "a/c", "b/", "c")
	m := plainTree{}
	for i, p := range names {
		m[p] = leaf(p, i)
	}
	want := m.which(func(string) bool { return true })
	many := 0
	orders(names, func(o []string) {
		x := tree.New()
		for _, p := range o {
			x = x.Put(m[p])
			flat(t, x)
		}
		same(t, "All", x.All(), want)
		if many%50 == 0 { // asking all trees for all ranges takes too long
			tellsAs(t, x, m, texts)
		}
		many++
	})
	if many != 5040 {
		t.Errorf("%d orders", many)
	}
}

// P3.3: leaves that were put in another order, some of them several times, are told the same.
func TestDetoursDoNotTell(t *testing.T) {
	straight := plant("a", "b", "c", "d", "e")
	detour := plant("e", "a", "c", "c", "b", "d", "e", "a")
	for i, p := range []string{"d", "a", "c", "e", "b"} {
		detour = detour.Put(leaf(p, 90+i))
	}
	for _, l := range straight.All() {
		detour = detour.Put(l)
	}
	same(t, "All", detour.All(), straight.All())
	same(t, "Range", detour.Range("b", "d"), straight.Range("b", "d"))
	same(t, "Under", detour.Under("c"), straight.Under("c"))
	if detour.Len() != straight.Len() {
		t.Errorf("Len %d, %d", detour.Len(), straight.Len())
	}
}

// number is a path that stands among others as i does among numbers.
func number(i int) string { return fmt.Sprintf("%06d", i) }

// P3.1, P3.3: in a rising and in a falling order the leaves stand as flat as so many can.
func TestDepthRisingAndFalling(t *testing.T) {
	const most = 5000
	rising, falling := tree.New(), tree.New()
	for i := range most {
		rising = rising.Put(leaf(number(i), i))
		falling = falling.Put(leaf(number(most-i), i))
		flat(t, rising)
		flat(t, falling)
		if want := bits.Len(uint(i + 1)); rising.Depth() != want || falling.Depth() != want {
			t.Fatalf("%d leaves: %d deep in a rising order, %d in a falling one, want %d", i+1, rising.Depth(), falling.Depth(), want)
		}
	}
	if rising.Len() != most || len(rising.All()) != most || falling.Len() != most || len(falling.All()) != most {
		t.Errorf("leaves are lost: %d, %d", len(rising.All()), len(falling.All()))
	}
}

// P3.3: other orders that make a tree lean: from both ends inwards, from the middle outwards, by steps, in and out, drawn.
func TestFlatInOtherOrders(t *testing.T) {
	const most = 1009 // a prime, so that each step goes through all
	d := rand.New(rand.NewSource(3))
	drawn := d.Perm(most)
	turns := map[string]func(i int) int{
		"inwards": func(i int) int {
			if i%2 == 0 {
				return i / 2
			}
			return most - 1 - i/2
		},
		"outwards": func(i int) int {
			if i%2 == 0 {
				return most/2 + i/2
			}
			return most/2 - 1 - i/2
		},
		"halves": func(i int) int { return i/2 + i%2*(most/2+1) },
		"drawn":  func(i int) int { return drawn[i] },
	}
	for _, step := range []int{2, 3, 10, 31, 504, 505, 999} {
		turns[fmt.Sprint("step ", step)] = func(i int) int { return i * step % most }
	}
	for what, turn := range turns {
		x := tree.New()
		for i := range most {
			x = x.Put(leaf(number(turn(i)), i))
			flat(t, x)
		}
		all := x.All()
		if len(all) != most || x.Len() != most {
			t.Fatalf("%s: %d leaves, Len %d", what, len(all), x.Len())
		}
		for i, l := range all {
			if l.Path != number(i) {
				t.Fatalf("%s: leaf %d is %q", what, i, l.Path)
			}
		}
	}
}

// P3.3: a tree that was told tells the same for ever: whatever is put behind it, into it or into another, in whatever place.
func TestForEver(t *testing.T) {
	type told struct {
		x          *tree.Tree
		m          plainTree
		len, depth int
	}
	d := rand.New(rand.NewSource(4))
	names := []string{"", "a", "a/b", "a/b/c", "a-b", "ab", "b", "b/c", "b/d", "c", "c/", "d"}
	texts := append(slices.Clone(names), "a/", "e")
	row := []told{{x: tree.New(), m: plainTree{}}, {m: plainTree{}}}
	for i := range 400 {
		from := row[d.Intn(len(row))]
		if i%2 == 0 {
			from = row[len(row)-1]
		}
		l := leaf(names[d.Intn(len(names))], i)
		m := maps.Clone(from.m)
		m[l.Path] = l
		x := from.x.Put(l)
		row = append(row, told{x, m, x.Len(), x.Depth()})
	}
	for _, r := range row {
		tellsAs(t, r.x, r.m, texts)
		if r.x.Len() != r.len || r.x.Depth() != r.depth {
			t.Fatalf("Len %d, Depth %d; at first %d, %d", r.x.Len(), r.x.Depth(), r.len, r.depth)
		}
	}
}

// P3.3: the same of a greater tree: each of its leaves put again, and new ones beside them, leave it as it was.
func TestGreatTreeStays(t *testing.T) {
	x := tree.New()
	for i := range 2000 {
		x = x.Put(leaf(number(2*(i*7%2000)), i))
	}
	all, depth := x.All(), x.Depth()
	y := x
	for i := range 4000 {
		x.Put(leaf(number(i), -i))
		y = y.Put(leaf(number(i), -i))
	}
	same(t, "All", x.All(), all)
	if x.Len() != 2000 || x.Depth() != depth || y.Len() != 4000 {
		t.Errorf("Len %d, Depth %d, then %d; the other tree's %d", x.Len(), depth, x.Depth(), y.Len())
	}
}

// R1: a great tree's calls end, and are flat still.
func TestGreatTree(t *testing.T) {
	const most = 1 << 17
	x := tree.New()
	for i := range most {
		x = x.Put(leaf(number(i*5%most), i))
	}
	flat(t, x)
	if len(x.All()) != most || len(x.Range(number(10), number(most-10))) != most-20 {
		t.Errorf("%d leaves, %d of them in a range", len(x.All()), len(x.Range(number(10), number(most-10))))
	}
}

// No texts make a call panic, and what is told is what the chapter's words say.
func FuzzTree(f *testing.F) {
	f.Add("b\na\na/b\nab", "a", "b")
	f.Add("\n/\n//\n\xff\n\xff/\x00", "/", "")
	f.Fuzz(func(t *testing.T, lines, a, b string) {
		x, m := tree.New(), plainTree{}
		for i, p := range strings.Split(lines, "\n") {
			x = x.Put(leaf(p, i))
			m[p] = leaf(p, i)
			flat(t, x)
		}
		tellsAs(t, x, m, []string{"", a, b})
	})
}
