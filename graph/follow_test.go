package graph_test

import (
	"fmt"
	"maps"
	"math"
	"math/rand"
	"reflect"
	"slices"
	"strings"
	"testing"

	"wapentake/api"
	"wapentake/change"
	"wapentake/graph"
	"wapentake/path"
)

// plainGraph is a graph by the chapter's words: commits alone, of which all else is found anew each time.
type plainGraph []api.Commit

// leaf is what the last commit that has p makes of it; false, if none has it.
func (c plainGraph) leaf(p string) (api.Leaf, bool) {
	for i := len(c) - 1; i >= 0; i-- {
		for _, x := range c[i].Changes {
			if x.Path == p {
				return api.Leaf{Path: p, Digest: x.Digest, Rev: i + 1, Gone: x.Gone}, true
			}
		}
	}
	return api.Leaf{}, false
}

// land is Land, with the graph that there is then.
func (c plainGraph) land(base int, ref string, l []api.Change) (plainGraph, api.Verdict) {
	if change.Check(l) != api.OK {
		return c, bad()
	}
	if ref != "" && !path.Name(ref) {
		return c, bad()
	}
	if base < 0 {
		return c, bad()
	}
	if base > len(c) {
		return c, ahead(len(c))
	}
	first := api.Leaf{}
	for _, x := range l {
		leaf, ok := c.leaf(x.Path)
		if ok && leaf.Rev > base && (first.Path == "" || path.Compare(x.Path, first.Path) < 0) {
			first = leaf
		}
	}
	if first.Path != "" {
		return c, conflict(first.Path, first.Rev)
	}
	next := append(slices.Clone(c), api.Commit{Rev: len(c) + 1, Base: base, Ref: ref, Changes: change.Sorted(l)})
	return next, landed(len(next))
}

// read is Read.
func (c plainGraph) read(p string) api.Verdict {
	if n, ok := path.Normal(p); !ok || n != p {
		return bad()
	}
	if leaf, ok := c.leaf(p); ok && !leaf.Gone {
		return found(p, leaf.Digest, leaf.Rev)
	}
	return missing(p)
}

// log is Log.
func (c plainGraph) log(from, many int) api.Verdict {
	if from < 1 || many < 1 {
		return bad()
	}
	var l []api.Commit
	for _, x := range c {
		if x.Rev >= from && len(l) < many && len(l) < api.MaxLog {
			l = append(l, x)
		}
	}
	return logIs(l...)
}

// tell is what a graph with these commits tells of itself.
func (c plainGraph) tell() state {
	s := state{head: len(c), commits: plainly(c)}
	refs, paths := map[string]int{}, map[string]int{}
	for i, x := range c {
		if x.Ref != "" {
			refs[x.Ref] = i + 1
		}
		for _, y := range x.Changes {
			paths[y.Path]++
		}
	}
	for _, name := range slices.SortedFunc(maps.Keys(refs), strings.Compare) {
		s.refs = append(s.refs, graph.Ref{Name: name, Rev: refs[name]})
	}
	for _, p := range slices.SortedFunc(maps.Keys(paths), path.Compare) {
		leaf, _ := c.leaf(p)
		s.leaves = append(s.leaves, leaf)
	}
	return s
}

// ask is what Land is asked.
type ask struct {
	base int
	ref  string
	l    []api.Change
}

// tellsAs holds all that g tells against the chapter's words.
func tellsAs(t *testing.T, g *graph.Graph, c plainGraph) {
	t.Helper()
	stays(t, "all", g, c.tell())
	for _, p := range []string{"a", "b", "c", "a/b", "a-b", "d", "", "a/", "A"} {
		is(t, "Read "+p, g.Read(p), c.read(p))
	}
	for from := -1; from <= len(c)+2; from++ {
		for _, many := range []int{-1, 0, 1, 2, 99} {
			is(t, fmt.Sprint("Log ", from, many), g.Log(from, many), c.log(from, many))
		}
	}
	if t.Failed() {
		t.FailNow()
	}
}

// keepsOrder holds commits against P5.4: each Base is at most the revision ahead of it, and no path was changed behind it by another one.
func keepsOrder(t *testing.T, l []api.Commit) {
	t.Helper()
	for i, c := range l {
		if c.Rev != i+1 || c.Base < 0 || c.Base > c.Rev-1 {
			t.Fatalf("commit %d: %v", i, c)
		}
		for _, other := range l[c.Base:i] {
			for _, x := range c.Changes {
				for _, y := range other.Changes {
					if x.Path == y.Path {
						t.Fatalf("%v was changed behind the Base of %v by %v", x.Path, c, other)
					}
				}
			}
		}
		if change.Check(c.Changes) != api.OK || !change.Same(c.Changes, change.Sorted(c.Changes)) {
			t.Fatalf("commit %d has changes that may not be, or in no order: %v", i, c)
		}
	}
}

// asks is what may land, and what may not, whatever the head is at the beginning of a row.
func asks() []ask {
	var all []ask
	lists := [][]api.Change{
		puts("a"), {gone("a")}, puts("b", "a"), {put("a-b", 1), gone("b"), put("a/b", 2)}, puts("a", "a"),
	}
	for _, base := range []int{-1, 0, 1, 2} {
		for i, l := range lists {
			all = append(all, ask{base, []string{"", "main", "old", "main", "A"}[(base+1+i)%5], l})
		}
	}
	return all
}

// P5.1, P5.2, P5.4: all rows of four asks, each step upon a clone: what is told is what the chapter's words say, the commits keep their order, and Load of them is the graph.
func TestAllRows(t *testing.T) {
	all := asks()
	var walk func(g *graph.Graph, c plainGraph, left int)
	walk = func(g *graph.Graph, c plainGraph, left int) {
		for i, a := range all {
			h := g.Clone()
			next, want := c.land(a.base, a.ref, a.l)
			land(t, h, a.base, a.ref, a.l, want)
			if left == 0 && i%7 != len(c)%7 {
				continue // telling all of each takes too long
			}
			tellsAs(t, h, next)
			keepsOrder(t, h.Commits())
			if left > 0 && len(next) > len(c) { // what is refused changes nothing, so that its rows are there already
				walk(h, next, left-1)
			}
		}
		stays(t, "a graph with clones", g, c.tell())
		loads(t, "Commits", g.Commits(), api.OK)
	}
	walk(graph.New(), nil, 3)
}

// draw is an ask that is near what may land.
func draw(d *rand.Rand, head int) ask {
	paths := []string{"a", "b", "c", "d", "a/b", "a/c", "a-b", "a.b", "ab", "b/a", "b/a/c", "x", "y", "z", "z/z", "0", "1", "2"}
	refs := []string{"", "", "main", "old", "a-b", "a_b", "z", "A"}
	var l []api.Change
	for range 1 + d.Intn(4) {
		c := put(paths[d.Intn(len(paths))], uint64(d.Intn(3)))
		if d.Intn(3) == 0 {
			c = gone(c.Path)
		}
		l = append(l, c)
	}
	base := head - d.Intn(4)
	if d.Intn(20) == 0 {
		base = head + d.Intn(3)
	}
	return ask{base, refs[d.Intn(len(refs))], l}
}

// P5.4: long rows: each step tells what the chapter's words say; Load of Commits is the graph, and goes on as it.
func TestLongRows(t *testing.T) {
	for seed := range 20 {
		d := rand.New(rand.NewSource(int64(seed)))
		g, c := graph.New(), plainGraph(nil)
		other := graph.New()
		for i := range 150 {
			a := draw(d, len(c))
			next, want := c.land(a.base, a.ref, a.l)
			land(t, g, a.base, a.ref, a.l, want)
			land(t, other, a.base, a.ref, a.l, want)
			c = next
			if i%10 == 0 {
				other = loads(t, "Commits", g.Commits(), api.OK)
				tellsAs(t, g, c)
				tellsAs(t, other, c)
				keepsOrder(t, g.Commits())
			}
		}
		if len(c) < 30 || len(c) > 140 {
			t.Errorf("%d of 150 landed: the rows tell little", len(c))
		}
	}
}

// P5.3: of all rows of short commits Load takes just those that Land makes of them.
func TestLoadOfAll(t *testing.T) {
	var some []api.Commit
	for rev := range 4 {
		for base := range 3 {
			for _, l := range [][]api.Change{puts("a"), puts("a", "b"), puts("b", "a"), {gone("b")}} {
				some = append(some, api.Commit{Rev: rev, Base: base, Ref: []string{"", "r", "R"}[(rev+base)%3], Changes: l})
			}
		}
	}
	right := 0
	var walk func(l []api.Commit, c plainGraph, ok bool, left int)
	walk = func(l []api.Commit, c plainGraph, ok bool, left int) {
		g, e := graph.Load(l)
		if ok != (e == api.OK) || ok != (g != nil) || !ok && e != api.ErrForm {
			t.Fatalf("Load of %v: %v", l, e)
		}
		if ok {
			right++
			stays(t, "Load", g, c.tell())
		}
		if left == 0 {
			return
		}
		for _, x := range some {
			next, v := c.land(x.Base, x.Ref, x.Changes)
			just := v.Code == api.Landed && reflect.DeepEqual(next[len(c)], x)
			walk(append(slices.Clone(l), x), next, ok && just, left-1)
		}
	}
	walk(nil, nil, true, 3)
	if right < 10 {
		t.Errorf("Load took %d rows: they tell little", right)
	}
}

// R1: calls end, and none panics, at numbers and texts that are as far out as may be, at long lists too.
func TestFarOut(t *testing.T) {
	numbers := []int{math.MinInt, math.MinInt + 1, -1 << 40, -1, 0, 1, 2, 1 << 31, 1 << 40, math.MaxInt - 1, math.MaxInt}
	texts := []string{"", "a", "\x00", "\xff", strings.Repeat("/", 1000), strings.Repeat("../", 1000), strings.Repeat("a/", 1000), strings.Repeat("a", 1<<16)}
	g, c := four(t), plainGraph(fourCommits())
	for _, n := range numbers {
		for _, s := range texts {
			for _, l := range [][]api.Change{nil, puts(s), puts("a", s), make([]api.Change, 1000), slices.Repeat(puts(s), 300)} {
				_, want := c.land(n, s, l)
				land(t, g.Clone(), n, s, l, want)
			}
			is(t, "Read", g.Read(s), c.read(s))
		}
		for _, m := range numbers {
			is(t, "Log", g.Log(n, m), c.log(n, m))
			l := []api.Commit{{Rev: n, Base: m, Changes: puts("a")}}
			if _, e := graph.Load(l); (e == api.OK) != (n == 1 && m == 0) {
				t.Errorf("Load of Rev %d, Base %d: %v", n, m, e)
			}
		}
	}
	if _, e := graph.Load(make([]api.Commit, 100000)); e != api.ErrForm {
		t.Errorf("Load of empty commits: %v", e)
	}
}

// R1: a long chain with many paths and refs is still told, loaded and cloned.
func TestLongChain(t *testing.T) {
	const most = 30000
	g := graph.New()
	for i := range most {
		l := puts(fmt.Sprint("d", i%100, "/p", i), fmt.Sprint("q", i%1000))
		if v := g.Land(i, fmt.Sprint("r", i%5000), l); v.Code != api.Landed || v.Rev != i+1 {
			t.Fatalf("Land %d: %v", i, v)
		}
	}
	h := loads(t, "a long chain", g.Commits(), api.OK)
	for _, x := range []*graph.Graph{g, h, h.Clone()} {
		if x.Head() != most || len(x.Commits()) != most || len(x.Leaves()) != most+1000 || len(x.Refs()) != 5000 {
			t.Errorf("the head %d, %d commits, %d leaves, %d refs", x.Head(), len(x.Commits()), len(x.Leaves()), len(x.Refs()))
		}
	}
	refuse(t, g, most-1, "", puts("z", "q1", "q999"), conflict("q999", most))
}

// rowOf reads bytes as asks: each of the changes takes one, and a byte ahead of some says their base and ref.
func rowOf(b []byte) []ask {
	paths := []string{"a", "b", "a/b", "a-b", "c", "A", "x/", "y"}
	refs := []string{"", "main", "old", "R/"}
	var all []ask
	for len(b) > 0 {
		a := ask{base: int(b[0]%16) - 1, ref: refs[b[0]/16%4]}
		many := int(b[0] / 64)
		for b = b[1:]; many > 0 && len(b) > 0; many-- {
			a.l = append(a.l, api.Change{Path: paths[b[0]%8], Digest: uint64(b[0] / 8 % 4), Gone: b[0] >= 128})
			b = b[1:]
		}
		all = append(all, a)
	}
	return all
}

// No row of asks makes a call panic, and all that the chapter says holds of it.
func FuzzGraph(f *testing.F) {
	f.Add([]byte{0x41, 0, 0x51, 1, 0x42, 0, 0x81, 0, 1, 0x4a, 0x80})
	f.Add([]byte{0xc1, 0, 1, 2, 0x40, 5, 0x01, 0x71, 3})
	f.Fuzz(func(t *testing.T, b []byte) {
		g, c := graph.New(), plainGraph(nil)
		for _, a := range rowOf(b[:min(len(b), 200)]) {
			next, want := c.land(a.base, a.ref, a.l)
			land(t, g, a.base, a.ref, a.l, want)
			c = next
		}
		tellsAs(t, g, c)
		keepsOrder(t, g.Commits())
		tellsAs(t, loads(t, "Commits", g.Commits(), api.OK), c)
	})
}
