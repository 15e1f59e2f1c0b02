package tree_test

import (
	"math"
	"slices"
	"strings"
	"testing"
	"unsafe"

	"wapentake/api"
	"wapentake/path"
	"wapentake/tree"
)

// leaf is a leaf of that path; it has something in each field.
func leaf(p string, rev int) api.Leaf {
	return api.Leaf{Path: p, Digest: uint64(rev)*0x9e3779b97f4a7c15 + 1, Rev: rev, Gone: rev%2 == 1}
}

// plant puts leaves of the paths one behind the other, with revisions from 1 on.
func plant(paths ...string) *tree.Tree {
	t := tree.New()
	for i, p := range paths {
		t = t.Put(leaf(p, i+1))
	}
	return t
}

// paths is the leaves' paths, with a bar between them.
func paths(l []api.Leaf) string {
	var out []string
	for _, x := range l {
		out = append(out, x.Path)
	}
	return strings.Join(out, "|")
}

// same holds leaves against those that there should be.
func same(t *testing.T, what string, got, want []api.Leaf) {
	t.Helper()
	if len(got) != len(want) {
		t.Errorf("%.60q: %d leaves, want %d", what, len(got), len(want))
		return
	}
	for i, l := range got {
		if l != want[i] {
			t.Errorf("%.60q: leaf %d is %.40q of %d, want %.40q of %d", what, i, l.Path, l.Rev, want[i].Path, want[i].Rev)
			return
		}
	}
}

// empties is trees that have no leaf.
func empties() map[string]*tree.Tree {
	return map[string]*tree.Tree{"new": tree.New(), "nil": nil, "bare": {}}
}

// The chapter's examples.
func TestExamples(t *testing.T) {
	first := tree.New().Put(leaf("b", 1))
	second := first.Put(leaf("a", 2))
	same(t, "the second tree", second.All(), []api.Leaf{leaf("a", 2), leaf("b", 1)})
	same(t, "the first tree", first.All(), []api.Leaf{leaf("b", 1)})
	same(t, `Under("a")`, plant("a", "a/b", "ab").Under("a"), []api.Leaf{leaf("a", 1), leaf("a/b", 2)})
}

// P3.1, P3.2: an empty tree, and a nil one, tell that nothing is there.
func TestEmpty(t *testing.T) {
	for what, x := range empties() {
		for _, p := range []string{"", "a", "a/b", "\xff"} {
			if l, ok := x.Get(p); ok || l != (api.Leaf{}) {
				t.Errorf("%s: Get of %q: %v, %v", what, p, l, ok)
			}
			if got := x.Under(p); len(got) != 0 {
				t.Errorf("%s: Under of %q: %v", what, p, got)
			}
			if got := append(x.Range(p, ""), x.Range("", p)...); len(got) != 0 {
				t.Errorf("%s: Range from or to %q: %v", what, p, got)
			}
		}
		if x.Len() != 0 || x.Depth() != 0 || len(x.All()) != 0 {
			t.Errorf("%s: Len %d, Depth %d, All %v", what, x.Len(), x.Depth(), x.All())
		}
	}
}

// P3.1: a nil tree takes a leaf as an empty one does, and stays an empty one.
func TestPutToNil(t *testing.T) {
	var none *tree.Tree
	one := none.Put(leaf("z", 3))
	two := one.Put(leaf("a", 4))
	same(t, "one leaf", one.All(), []api.Leaf{leaf("z", 3)})
	same(t, "two leaves", two.All(), []api.Leaf{leaf("a", 4), leaf("z", 3)})
	if none.Len() != 0 || one.Len() != 1 || two.Len() != 2 || one.Depth() != 1 || two.Depth() != 2 {
		t.Errorf("Len %d, %d, %d, Depth %d, %d", none.Len(), one.Len(), two.Len(), one.Depth(), two.Depth())
	}
}

// R7: a tree that no call of the package made tells zero values, of a leaf that is put, too.
func TestNotMade(t *testing.T) {
	bare := &tree.Tree{}
	if got := bare.Put(leaf("a", 1)); got != nil {
		t.Errorf("Put: %v", got.All())
	}
	if _, ok := bare.Get("a"); ok || bare.Len() != 0 {
		t.Errorf("it has taken the leaf")
	}
}

// P3.1: each call of New is a tree of its own.
func TestNewIsNew(t *testing.T) {
	a, b := tree.New(), tree.New()
	a.Put(leaf("a", 1))
	if a == nil || b.Len() != 0 || tree.New().Len() != 0 {
		t.Errorf("an empty tree has leaves")
	}
}

// P3.1: Get tells each field of the leaf of just that path.
func TestGet(t *testing.T) {
	names := []string{"m", "a", "a/b", "a-b", "ab", "", "z/y/x", "/", "a/", "\xff\x00", "A b"}
	x := plant(names...)
	for i, p := range names {
		if l, ok := x.Get(p); !ok || l != leaf(p, i+1) {
			t.Errorf("Get of %q: %v, %v", p, l, ok)
		}
	}
	for _, p := range []string{"b", "a/b/", "a//b", "./a", "M", "z", "z/y", "//", "\xff", "A"} {
		if l, ok := x.Get(p); ok || l != (api.Leaf{}) {
			t.Errorf("Get of %q: %v, %v", p, l, ok)
		}
	}
}

// P3.1: numbers may be any, and a leaf that is gone is a leaf.
func TestAnyLeaf(t *testing.T) {
	for _, l := range []api.Leaf{
		{}, {Gone: true}, {Path: "a", Digest: math.MaxUint64, Rev: math.MaxInt}, {Path: "a", Rev: math.MinInt, Gone: true},
		{Path: "..", Rev: -1}, {Path: strings.Repeat("x/", 100000), Digest: 1}, {Path: strings.Repeat("x", 1<<20)}, {Path: "\x00\xff"},
	} {
		x := tree.New().Put(l)
		got, ok := x.Get(l.Path)
		if !ok || got != l || x.Len() != 1 || x.Depth() != 1 {
			t.Errorf("a leaf of %.20q: %v, Len %d, Depth %d", l.Path, ok, x.Len(), x.Depth())
		}
		same(t, "All", x.All(), []api.Leaf{l})
		same(t, "Under", x.Under(l.Path), []api.Leaf{l})
		same(t, "Range", x.Range(l.Path, ""), []api.Leaf{l})
	}
}

// P3.1: a path that is put again has the leaf that was put last, wherever it stands; Len and Depth stay.
func TestPutAgain(t *testing.T) {
	names := strings.Split("d b f a c e g", " ")
	x := plant(names...)
	for i, p := range names {
		y := x.Put(leaf(p, 50+i))
		if l, ok := y.Get(p); !ok || l != leaf(p, 50+i) {
			t.Errorf("%q put again: %v, %v", p, l, ok)
		}
		if l, _ := x.Get(p); l != leaf(p, i+1) {
			t.Errorf("%q put again: the tree ahead of it has %v", p, l)
		}
		if y.Len() != 7 || y.Depth() != x.Depth() || paths(y.All()) != "a|b|c|d|e|f|g" {
			t.Errorf("%q put again: Len %d, Depth %d, All %s", p, y.Len(), y.Depth(), paths(y.All()))
		}
		for k, q := range names {
			if l, _ := y.Get(q); q != p && l != leaf(q, k+1) {
				t.Errorf("%q put again: %q has %v", p, q, l)
			}
		}
	}
	if y := x.Put(leaf("d", 1)); !slices.Equal(y.All(), x.All()) {
		t.Errorf("the same leaf put again: %v", y.All())
	}
}

// P3.1: Len is how many paths there are, not how many leaves were put.
func TestLen(t *testing.T) {
	x := tree.New()
	for i, p := range []string{"a", "b", "a", "a", "c", "b", "", "", "a/b"} {
		x = x.Put(leaf(p, i))
		if want := []int{1, 2, 2, 2, 3, 3, 4, 4, 5}[i]; x.Len() != want {
			t.Errorf("after %d leaves: Len %d, want %d", i+1, x.Len(), want)
		}
	}
}

// P3.2: All goes by parts: what is within a path stands right behind it, ahead of longer names.
func TestAllByParts(t *testing.T) {
	want := []string{"", "/", "/a", "A", "a", "a/", "a/b", "a/b/c", "a/b-", "a\x00", "a-b", "a-b/c", "a.b", "ab", "ab/c", "b", "\xff"}
	for _, step := range []int{1, 2, 3, 5, 7, 11, 16} { // each has no divisor in common with 17
		x := tree.New()
		for i := range want {
			x = x.Put(leaf(want[i*step%len(want)], i))
		}
		if got := paths(x.All()); got != strings.Join(want, "|") {
			t.Errorf("step %d: %q", step, got)
		}
	}
}

// P3.2: Range's edges: an empty from and to, those that are leaves' paths and those that are not, to at from or ahead of it.
func TestRange(t *testing.T) {
	x := plant("b", "a", "a/b", "ab", "a-b", "d")
	for _, c := range []struct{ from, to, want string }{
		{"", "", "a|a/b|a-b|ab|b|d"},
		{"a", "", "a|a/b|a-b|ab|b|d"},
		{"a/b", "", "a/b|a-b|ab|b|d"},
		{"a/a", "", "a/b|a-b|ab|b|d"},
		{"a/c", "", "a-b|ab|b|d"},
		{"c", "", "d"},
		{"d", "", "d"},
		{"d/", "", ""},
		{"e", "", ""},
		{"", "a", ""},
		{"", "a/", "a"},
		{"", "a/b", "a"},
		{"", "b", "a|a/b|a-b|ab"},
		{"", "c", "a|a/b|a-b|ab|b"},
		{"", "d", "a|a/b|a-b|ab|b"},
		{"", "e", "a|a/b|a-b|ab|b|d"},
		{"a/b", "b", "a/b|a-b|ab"},
		{"a/c", "c", "a-b|ab|b"},
		{"a", "a/b", "a"},
		{"a", "a", ""},
		{"b", "a", ""},
		{"e", "a", ""},
		{"a-", "a-c", "a-b"},
		{"\x00", "\xff", "a|a/b|a-b|ab|b|d"},
	} {
		if got := paths(x.Range(c.from, c.to)); got != c.want {
			t.Errorf("Range of %q, %q: %q, want %q", c.from, c.to, got, c.want)
		}
	}
	y := x.Put(leaf("", 9))
	for _, c := range []struct{ from, to, want string }{
		{"", "", "|a|a/b|a-b|ab|b|d"}, {"", "a", ""}, {"/", "a/b", "a"}, {"", "a/b", "|a"},
	} {
		if got := paths(y.Range(c.from, c.to)); got != c.want {
			t.Errorf("with an empty path, Range of %q, %q: %q, want %q", c.from, c.to, got, c.want)
		}
	}
	if got := y.Range("", "a"); len(got) != 1 {
		t.Errorf("the leaf of the empty path is not ahead of an empty from: %v", got)
	}
}

// P3.2: Under's edges: an empty dir, one that is a leaf's path, one that is not, one that merely begins like others.
func TestUnder(t *testing.T) {
	x := plant("b/c/d", "ab", "a", "a-b/c", "a/b/c", "a/b", "b/c/e", "a/bc", "b/a")
	for _, c := range []struct{ dir, want string }{
		{"", "a|a/b|a/b/c|a/bc|a-b/c|ab|b/a|b/c/d|b/c/e"},
		{"a", "a|a/b|a/b/c|a/bc"},
		{"a/b", "a/b|a/b/c"},
		{"a/b/c", "a/b/c"},
		{"a/b/c/d", ""},
		{"a/bc", "a/bc"},
		{"a-b", "a-b/c"},
		{"a-", ""},
		{"ab", "ab"},
		{"b", "b/a|b/c/d|b/c/e"},
		{"b/c", "b/c/d|b/c/e"},
		{"b/", ""},
		{"c", ""},
		{"/", ""},
		{"\xff", ""},
	} {
		if got := paths(x.Under(c.dir)); got != c.want {
			t.Errorf("Under of %q: %q, want %q", c.dir, got, c.want)
		}
	}
	odd := plant("", "/", "//", "/a", "a/", "a//b", "a")
	for _, c := range []struct{ dir, want string }{{"", "|/|//|/a|a|a/|a//b"}, {"/", "/|//"}, {"a/", "a/|a//b"}, {"a", "a|a/|a//b"}} {
		if got := paths(odd.Under(c.dir)); got != c.want {
			t.Errorf("Under of %q: %q, want %q", c.dir, got, c.want)
		}
	}
}

// R4: a path is not kept with the text that it is a piece of.
func TestPathIsNotKept(t *testing.T) {
	text := []byte("abc/def")
	x := tree.New().Put(api.Leaf{Path: unsafe.String(&text[0], 3), Rev: 1}).Put(api.Leaf{Path: "b"})
	x = x.Put(api.Leaf{Path: unsafe.String(&text[0], 3), Rev: 2})
	copy(text, "zzz")
	if got, ok := x.Get("abc"); !ok || got.Rev != 2 || paths(x.All()) != "abc|b" {
		t.Errorf("the text was changed, and the tree with it: %s", paths(x.All()))
	}
}

// R4: lists that are told are new memory, spare room too: who writes into one changes neither the tree nor another list.
func TestListsAreNew(t *testing.T) {
	x := plant("a", "a/b", "b", "c", "d")
	told := func() [][]api.Leaf {
		return [][]api.Leaf{x.All(), x.All(), x.Range("a", ""), x.Range("", "d"), x.Under(""), x.Under("a")}
	}
	want := told()
	lists := told()
	for i, l := range lists {
		for k := range l[:cap(l)] {
			l[:cap(l)][k] = leaf("spoilt", 99)
		}
		for k := i + 1; k < len(lists); k++ {
			same(t, "a list beside one that was written into", lists[k], want[k])
		}
	}
	for i, l := range told() {
		same(t, "a list behind one that was written into", l, want[i])
	}
}

// P3.2: the lists of a tree are in the order of path.Compare, strictly.
func TestInOrder(t *testing.T) {
	x := tree.New()
	for i := range 300 {
		x = x.Put(leaf(strings.Repeat("a/", i%7)+strings.Repeat("b", i%11), i))
		all := x.All()
		if len(all) != x.Len() {
			t.Fatalf("All has %d leaves, Len is %d", len(all), x.Len())
		}
		for k := 1; k < len(all); k++ {
			if path.Compare(all[k-1].Path, all[k].Path) != -1 {
				t.Fatalf("%q stands ahead of %q", all[k-1].Path, all[k].Path)
			}
		}
	}
}
