package graph_test

import (
	"fmt"
	"math"
	"reflect"
	"slices"
	"strings"
	"testing"

	"wapentake/api"
	"wapentake/graph"
)

// put is a change of p to d.
func put(p string, d uint64) api.Change { return api.Change{Path: p, Digest: d} }

// gone is a change after which p is there no more.
func gone(p string) api.Change { return api.Change{Path: p, Gone: true} }

// puts is changes of the paths, each to something.
func puts(paths ...string) []api.Change {
	var l []api.Change
	for _, p := range paths {
		l = append(l, put(p, 7))
	}
	return l
}

// landed and the next ones are the verdicts that a graph has, with the fields that the chapter names and no others.
func landed(rev int) api.Verdict { return api.Verdict{Code: api.Landed, Rev: rev} }
func conflict(p string, rev int) api.Verdict {
	return api.Verdict{Code: api.Conflict, Path: p, Rev: rev}
}
func ahead(head int) api.Verdict { return api.Verdict{Code: api.Ahead, Rev: head} }
func bad() api.Verdict           { return api.Verdict{Code: api.Bad} }
func found(p string, d uint64, rev int) api.Verdict {
	return api.Verdict{Code: api.Found, Path: p, Digest: d, Rev: rev}
}
func missing(p string) api.Verdict { return api.Verdict{Code: api.Missing, Path: p} }
func logIs(l ...api.Commit) api.Verdict {
	return api.Verdict{Code: api.LogIs, Commits: l}
}

// plainly is the commits in new memory, with each empty list as nil, since they are one.
func plainly(l []api.Commit) []api.Commit {
	var out []api.Commit
	for _, c := range l {
		c.Changes = append([]api.Change(nil), c.Changes...)
		out = append(out, c)
	}
	return out
}

// is holds a verdict against another.
func is(t *testing.T, what string, got, want api.Verdict) {
	t.Helper()
	got.Commits, want.Commits = plainly(got.Commits), plainly(want.Commits)
	if !reflect.DeepEqual(got, want) {
		t.Errorf("%s: %.300q, want %.300q", what, fmt.Sprintf("%+v", got), fmt.Sprintf("%+v", want))
	}
}

// land holds what Land tells against a verdict.
func land(t *testing.T, g *graph.Graph, base int, ref string, l []api.Change, want api.Verdict) {
	t.Helper()
	is(t, fmt.Sprintf("Land %d %.30q %.200q", base, ref, fmt.Sprint(l)), g.Land(base, ref, l), want)
}

// state is all that a graph tells of itself.
type state struct {
	head    int
	refs    []graph.Ref
	leaves  []api.Leaf
	commits []api.Commit
}

// tell is g's state.
func tell(g *graph.Graph) state {
	return state{g.Head(), append([]graph.Ref(nil), g.Refs()...), append([]api.Leaf(nil), g.Leaves()...), plainly(g.Commits())}
}

// stays holds g's state against one that it had.
func stays(t *testing.T, what string, g *graph.Graph, was state) {
	t.Helper()
	if now := tell(g); !reflect.DeepEqual(now, was) {
		t.Errorf("%s: %.900q, was %.900q", what, fmt.Sprintf("%+v", now), fmt.Sprintf("%+v", was))
	}
}

// refuse holds what Land tells against a verdict, and the graph against what it was.
func refuse(t *testing.T, g *graph.Graph, base int, ref string, l []api.Change, want api.Verdict) {
	t.Helper()
	was := tell(g)
	land(t, g, base, ref, l, want)
	stays(t, "a refused Land", g, was)
}

// four is a graph of four commits: a and b are changed by two of them, c is gone, and there are two refs.
func four(t *testing.T) *graph.Graph {
	t.Helper()
	g := graph.New()
	land(t, g, 0, "main", []api.Change{put("c", 3), put("a", 1), put("b", 2)}, landed(1))
	land(t, g, 1, "", []api.Change{put("a", 4)}, landed(2))
	land(t, g, 1, "old", []api.Change{gone("c")}, landed(3))
	land(t, g, 3, "main", []api.Change{put("d/e", 0), put("b", 6)}, landed(4))
	return g
}

// fourCommits is the commits of four.
func fourCommits() []api.Commit {
	return []api.Commit{
		{Rev: 1, Base: 0, Ref: "main", Changes: []api.Change{put("a", 1), put("b", 2), put("c", 3)}},
		{Rev: 2, Base: 1, Ref: "", Changes: []api.Change{put("a", 4)}},
		{Rev: 3, Base: 1, Ref: "old", Changes: []api.Change{gone("c")}},
		{Rev: 4, Base: 3, Ref: "main", Changes: []api.Change{put("b", 6), put("d/e", 0)}},
	}
}

// The chapter's examples.
func TestExamples(t *testing.T) {
	g := graph.New()
	land(t, g, 0, "", []api.Change{put("a", 5)}, landed(1))
	land(t, g, 0, "main", []api.Change{put("b", 6)}, landed(2))
	land(t, g, 1, "", []api.Change{put("a", 7)}, landed(3))
	land(t, g, 0, "", []api.Change{put("a", 8)}, conflict("a", 3))
	land(t, g, 9, "", []api.Change{put("a", 1)}, ahead(3))
	is(t, "Read a", g.Read("a"), found("a", 7, 3))
	is(t, "Read c", g.Read("c"), missing("c"))
	if r := g.Refs(); !slices.Equal(r, []graph.Ref{{Name: "main", Rev: 2}}) {
		t.Errorf("Refs: %v", r)
	}
}

// P5.1: what lands is told in all ways: the head, the commits with their changes sorted, the leaves, the refs.
func TestLanded(t *testing.T) {
	stays(t, "four", four(t), state{
		head: 4,
		refs: []graph.Ref{{Name: "main", Rev: 4}, {Name: "old", Rev: 3}},
		leaves: []api.Leaf{
			{Path: "a", Digest: 4, Rev: 2}, {Path: "b", Digest: 6, Rev: 4}, {Path: "c", Rev: 3, Gone: true}, {Path: "d/e", Rev: 4},
		},
		commits: fourCommits(),
	})
	stays(t, "none", graph.New(), state{})
}

// P5.1: Bad, where change.Check refuses the changes: none, too many, twice one path, a wrong path, a digest of what is gone.
func TestLandWrongChanges(t *testing.T) {
	var most, more []api.Change
	for i := range api.MaxChanges {
		most = append(most, put(fmt.Sprint("p", i*7%api.MaxChanges), uint64(i)))
	}
	more = append(slices.Clone(most), put("q", 1))
	for _, g := range []*graph.Graph{graph.New(), four(t)} {
		for _, l := range [][]api.Change{
			nil, {}, more, puts("x", "y", "x"), puts("a/"), puts(""), puts("x", "../a"), puts("x", "A"), puts(strings.Repeat("x", api.MaxPath+1)),
			{{Path: "x", Gone: true, Digest: 1}}, {put("y", 1), {Path: "x", Gone: true, Digest: math.MaxUint64}},
		} {
			refuse(t, g, 0, "", l, bad())
			refuse(t, g, g.Head(), "main", l, bad())
		}
		land(t, g, g.Head(), "", most, landed(g.Head()+1))
	}
}

// P5.1: Bad, where the ref is neither empty nor a path.Name.
func TestLandRef(t *testing.T) {
	long := strings.Repeat("r", api.MaxPart)
	for _, ref := range []string{"A", "a.b", "a/b", "/", ".", "..", " ", "a ", "\x00", "é", "\xff", "a\n", long + "r", strings.Repeat("r", 1<<20)} {
		refuse(t, four(t), 4, ref, puts("x"), bad())
		refuse(t, graph.New(), 0, ref, puts("x"), bad())
	}
	for _, ref := range []string{"a", "0", "_", "-", "main-2", "a_b", long} {
		g := graph.New()
		land(t, g, 0, ref, puts("x"), landed(1))
		if r := g.Refs(); !slices.Equal(r, []graph.Ref{{Name: ref, Rev: 1}}) {
			t.Errorf("Refs: %v", r)
		}
		if c := g.Commits(); len(c) != 1 || c[0].Ref != ref {
			t.Errorf("Commits: %v", c)
		}
	}
	g := graph.New()
	land(t, g, 0, "", puts("x"), landed(1))
	if r := g.Refs(); len(r) != 0 {
		t.Errorf("an empty ref is there: %v", r)
	}
}

// P5.1: a base below 0 is Bad, one above the head is Ahead, those from 0 to the head may be.
func TestLandBase(t *testing.T) {
	g := four(t)
	for _, base := range []int{-1, -2, -4, -5, math.MinInt32, math.MinInt, math.MinInt + 1} {
		refuse(t, g, base, "", puts("x"), bad())
		refuse(t, graph.New(), base, "", puts("x"), bad())
	}
	for _, base := range []int{5, 6, 1 << 40, math.MaxInt - 1, math.MaxInt} {
		refuse(t, g, base, "", puts("x"), ahead(4))
		refuse(t, graph.New(), base, "", puts("x"), ahead(0))
	}
	refuse(t, graph.New(), 1, "", puts("x"), ahead(0))
	for base := range 5 {
		h := g.Clone()
		land(t, h, base, "", puts("x"), landed(5))
		if c := h.Commits(); c[4].Base != base || c[4].Rev != 5 {
			t.Errorf("upon %d: %v", base, c[4])
		}
	}
	land(t, graph.New(), 0, "", puts("x"), landed(1))
}

// P5.1: a path may be changed upon the revision that changed it last, and upon each one behind; ahead of it there is a conflict.
func TestLandConflict(t *testing.T) {
	last := map[string]int{"a": 2, "b": 4, "c": 3, "d/e": 4}
	for p, rev := range last {
		for base := range 5 {
			for _, c := range []api.Change{put(p, 9), put(p, 0), gone(p)} {
				g := four(t)
				if base < rev {
					refuse(t, g, base, "main", []api.Change{c}, conflict(p, rev))
				} else {
					land(t, g, base, "main", []api.Change{c}, landed(5))
				}
			}
		}
	}
}

// P5.1: a change that brings nothing new is one, too: it has a revision, and others are refused for it.
func TestLandTheSame(t *testing.T) {
	g := graph.New()
	land(t, g, 0, "", []api.Change{put("a", 5)}, landed(1))
	land(t, g, 1, "", []api.Change{put("a", 5)}, landed(2))
	refuse(t, g, 1, "", []api.Change{put("a", 5)}, conflict("a", 2))
	land(t, g, 2, "", []api.Change{gone("a")}, landed(3))
	land(t, g, 3, "", []api.Change{gone("a")}, landed(4))
	refuse(t, g, 3, "", []api.Change{put("a", 5)}, conflict("a", 4))
	land(t, g, 0, "", []api.Change{gone("never")}, landed(5))
	refuse(t, g, 4, "", []api.Change{put("never", 5)}, conflict("never", 5))
}

// P5.1: what is gone has a leaf, too: who did not see it go is refused, and who did may bring it back.
func TestLandGone(t *testing.T) {
	g := four(t)
	refuse(t, g, 2, "", []api.Change{put("c", 1)}, conflict("c", 3))
	refuse(t, g, 2, "", []api.Change{gone("c")}, conflict("c", 3))
	land(t, g, 3, "", []api.Change{put("c", 8)}, landed(5))
	is(t, "Read c", g.Read("c"), found("c", 8, 5))
	refuse(t, g, 4, "", []api.Change{put("c", 1)}, conflict("c", 5))
}

// P5.1: of several paths that were changed behind the base the first by path.Compare is named, not the first that is handed in, the first that landed, the last, or the first by bytes.
func TestLandFirstConflict(t *testing.T) {
	g := graph.New()
	land(t, g, 0, "", puts("ab", "a"), landed(1))
	land(t, g, 1, "", puts("a-b"), landed(2))
	land(t, g, 2, "", puts("a/b"), landed(3))
	land(t, g, 3, "", puts("b"), landed(4))
	for _, row := range []struct {
		base  int
		paths []string // in the order of path.Compare
		want  api.Verdict
	}{
		{0, []string{"a", "a/b", "a-b", "ab", "b"}, conflict("a", 1)},
		{1, []string{"a", "a/b", "a-b", "ab", "b"}, conflict("a/b", 3)},
		{2, []string{"a", "a/b", "a-b", "ab", "b"}, conflict("a/b", 3)},
		{3, []string{"a", "a/b", "a-b", "ab", "b"}, conflict("b", 4)},
		{1, []string{"0", "a", "a-b", "ab", "b", "z"}, conflict("a-b", 2)},
		{2, []string{"a", "a-b", "b", "z"}, conflict("b", 4)},
		{0, []string{"ab", "b", "z"}, conflict("ab", 1)},
	} {
		for from := range row.paths {
			l := puts(append(slices.Clone(row.paths[from:]), row.paths[:from]...)...)
			refuse(t, g, row.base, "", l, row.want)
			slices.Reverse(l)
			refuse(t, g, row.base, "x", l, row.want)
		}
	}
}

// P5.1: a path is itself, not what is within it, nor what it is within, nor another one that begins as it.
func TestLandNear(t *testing.T) {
	g := graph.New()
	land(t, g, 0, "", puts("a/b"), landed(1))
	land(t, g, 0, "", puts("a", "a/b/c", "a/bb", "a/c", "b", "a-b", "ab"), landed(2))
	refuse(t, g, 0, "", puts("a/b"), conflict("a/b", 1))
}

// P5.1: where several hold, Bad comes first, then Ahead, then Conflict.
func TestLandWhichFirst(t *testing.T) {
	g := four(t)
	wrong, stale := puts("a", "a"), puts("a", "b")
	refuse(t, g, 9, "", wrong, bad())
	refuse(t, g, 9, "A", stale, bad())
	refuse(t, g, -9, "A", wrong, bad())
	refuse(t, g, 0, "", wrong, bad())
	refuse(t, g, 0, "A", stale, bad())
	refuse(t, g, -1, "", stale, bad())
	refuse(t, g, 5, "", stale, ahead(4))
	refuse(t, g, 0, "", stale, conflict("a", 2))
	refuse(t, graph.New(), 1, "A", puts("x"), bad())
}

// P5.2: Read of a path that is not what path.Normal says of it is Bad.
func TestReadWrong(t *testing.T) {
	g := four(t)
	land(t, g, 4, "", puts("d"), landed(5))
	for _, p := range []string{
		"", "/", "a/", "/a", "./a", "a/.", "a//", "d//e", "d/./e", "d/x/../e", "..", "../a", "a/..", "A", "a b", "\xff", "a\x00", "é",
		strings.Repeat("x", api.MaxPart+1), strings.Repeat("a/", api.MaxDepth) + "a", strings.Repeat("a", 1<<20), strings.Repeat("a/", 1<<20),
	} {
		is(t, fmt.Sprintf("Read %.50q", p), g.Read(p), bad())
	}
}

// P5.2: Read of a path with a leaf, of one that is gone, of one that never was.
func TestRead(t *testing.T) {
	g := four(t)
	is(t, "Read a", g.Read("a"), found("a", 4, 2))
	is(t, "Read b", g.Read("b"), found("b", 6, 4))
	is(t, "Read d/e", g.Read("d/e"), found("d/e", 0, 4))
	for _, p := range []string{"c", "d", "d/e/f", "d/f", "aa", "e", "a.b", strings.Repeat("x", api.MaxPart)} {
		is(t, "Read "+p, g.Read(p), missing(p))
		is(t, "Read "+p+" of none", graph.New().Read(p), missing(p))
	}
	land(t, g, 4, "", []api.Change{put("a", math.MaxUint64), gone("b")}, landed(5))
	is(t, "Read a", g.Read("a"), found("a", math.MaxUint64, 5))
	is(t, "Read b", g.Read("b"), missing("b"))
}

// P5.2: Log with from and many below 1, at 1, in the middle, at the head, past it.
func TestLog(t *testing.T) {
	g, c := four(t), fourCommits()
	for _, n := range []int{0, -1, -4, math.MinInt, math.MinInt + 1} {
		for _, m := range []int{0, -1, 1, 4, 5, math.MinInt, math.MaxInt} {
			is(t, "Log", g.Log(n, m), bad())
			is(t, "Log", g.Log(m, n), bad())
			is(t, "Log of none", graph.New().Log(n, m), bad())
		}
	}
	for from := 1; from <= 6; from++ {
		for many := 1; many <= 6; many++ {
			first := min(from-1, 4)
			is(t, fmt.Sprint("Log ", from, many), g.Log(from, many), logIs(c[first:min(first+many, 4)]...))
		}
		is(t, "Log of none", graph.New().Log(from, 3), logIs())
	}
	for _, far := range []int{5, 6, 32, 33, 1 << 40, math.MaxInt - 1, math.MaxInt} {
		is(t, "Log past the head", g.Log(far, 1), logIs())
		is(t, "Log past the head", g.Log(far, far), logIs())
		is(t, "Log of many", g.Log(1, far), logIs(c...))
		is(t, "Log of many", g.Log(4, far), logIs(c[3]))
	}
}

// P5.2: Log tells MaxLog commits at most.
func TestLogAtMost(t *testing.T) {
	g := graph.New()
	for i := range 2*api.MaxLog + 3 {
		land(t, g, i, "", puts(fmt.Sprint("f", i)), landed(i+1))
	}
	all := g.Commits()
	for _, from := range []int{1, 2, api.MaxLog, api.MaxLog + 3, api.MaxLog + 4, api.MaxLog + 5, 2*api.MaxLog + 3, 2*api.MaxLog + 4} {
		for _, many := range []int{1, api.MaxLog - 1, api.MaxLog, api.MaxLog + 1, 2 * api.MaxLog, 99, math.MaxInt} {
			last := min(from-1+min(many, api.MaxLog), len(all))
			is(t, fmt.Sprint("Log ", from, many), g.Log(from, many), logIs(all[from-1:last]...))
		}
	}
	if n := len(g.Log(1, 99).Commits); n != 32 {
		t.Errorf("Log told %d commits", n)
	}
}

// P5.2: Refs go by their names' bytes, whenever they came; one that is moved again has its last revision, one that a refused Land named is not there.
func TestRefs(t *testing.T) {
	row := []string{"-", "-a", "0", "9", "_", "a", "a-", "a-b", "a0", "a_", "aa", "ab", "b", "main", "z"}
	for _, step := range []int{1, 2, 4, 7, 14} { // each has no divisor in common with 15
		g := graph.New()
		for i := range row {
			land(t, g, 0, row[i*step%len(row)], puts(fmt.Sprint("p", i)), landed(i+1))
		}
		land(t, g, 0, row[7], puts("x"), landed(16))
		land(t, g, 0, row[0], puts("y"), landed(17))
		refuse(t, g, 0, row[1], puts("y"), conflict("y", 17))
		refuse(t, g, 0, "new", puts("y"), conflict("y", 17))
		refuse(t, g, 99, "new", puts("z"), ahead(17))
		var want []graph.Ref
		for k, name := range row {
			for i := range row {
				if i*step%len(row) == k {
					want = append(want, graph.Ref{Name: name, Rev: i + 1})
				}
			}
		}
		want[7].Rev, want[0].Rev = 16, 17
		if got := g.Refs(); !slices.Equal(got, want) {
			t.Errorf("Refs: %v, want %v", got, want)
		}
	}
}

// P5.2: Leaves go by path.Compare, those that are gone among them.
func TestLeaves(t *testing.T) {
	g := graph.New()
	land(t, g, 0, "", puts("b", "ab"), landed(1))
	land(t, g, 1, "", []api.Change{put("a-b", 7), gone("a"), put("a/b/c", 7)}, landed(2))
	land(t, g, 2, "", []api.Change{put("a.b", 7), gone("a/b"), gone("b")}, landed(3))
	want := []api.Leaf{
		{Path: "a", Rev: 2, Gone: true}, {Path: "a/b", Rev: 3, Gone: true}, {Path: "a/b/c", Digest: 7, Rev: 2}, {Path: "a-b", Digest: 7, Rev: 2},
		{Path: "a.b", Digest: 7, Rev: 3}, {Path: "ab", Digest: 7, Rev: 1}, {Path: "b", Rev: 3, Gone: true},
	}
	if got := g.Leaves(); !slices.Equal(got, want) {
		t.Errorf("Leaves: %v, want %v", got, want)
	}
}

// P5.2: a clone tells the same, and goes its own way, as does what it was cloned of.
func TestClone(t *testing.T) {
	g := four(t)
	h := g.Clone()
	was := tell(g)
	stays(t, "a clone", h, was)
	land(t, h, 4, "main", puts("x", "a"), landed(5))
	land(t, h, 5, "new", []api.Change{gone("x")}, landed(6))
	stays(t, "what was cloned, when the clone went on", g, was)
	hers := tell(h)
	land(t, g, 4, "old", []api.Change{put("y", 1), gone("a")}, landed(5))
	land(t, g, 2, "newer", puts("x"), landed(6))
	stays(t, "the clone, when what was cloned went on", h, hers)
	is(t, "Read x", h.Read("x"), missing("x"))
	is(t, "Read a", h.Read("a"), found("a", 7, 5))
	is(t, "Read a", g.Read("a"), missing("a"))
	k, l := h.Clone(), h.Clone()
	land(t, k, 6, "k", puts("k"), landed(7))
	land(t, l, 6, "l", puts("l"), landed(7))
	stays(t, "a clone of which there are clones", h, hers)
	if k.Commits()[6].Ref != "k" || l.Commits()[6].Ref != "l" {
		t.Errorf("two clones of one: %v, %v", k.Commits()[6], l.Commits()[6])
	}
	none := graph.New()
	land(t, none.Clone(), 0, "r", puts("a"), landed(1))
	stays(t, "none, when a clone went on", none, state{})
}

// P5.2: many clones at each step of a growing graph, each with a commit of its own, keep it.
func TestClonesOfAll(t *testing.T) {
	g := graph.New()
	var clones []*graph.Graph
	for i := range 70 {
		h := g.Clone()
		land(t, h, i, fmt.Sprint("h", i), []api.Change{put("h", uint64(i))}, landed(i+1))
		clones = append(clones, h)
		land(t, g, i, "g", []api.Change{put("g", uint64(i))}, landed(i+1))
	}
	for i, h := range clones {
		c := h.Commits()
		if len(c) != i+1 || c[i].Ref != fmt.Sprint("h", i) || i > 0 && c[i-1].Ref != "g" {
			t.Errorf("clone %d: %v", i, c)
		}
		is(t, "Read h", h.Read("h"), found("h", uint64(i), i+1))
	}
	is(t, "Read h", g.Read("h"), missing("h"))
}

// loads holds Load of l against an error; with one there is no graph.
func loads(t *testing.T, what string, l []api.Commit, want api.Errno) *graph.Graph {
	t.Helper()
	g, e := graph.Load(l)
	if e != want || (g == nil) != (want != api.OK) {
		t.Errorf("Load of %s: %v, %v, want %v", what, g, e, want)
	}
	return g
}

// P5.3: Load of none is an empty graph, and Load of what lands is what landed.
func TestLoad(t *testing.T) {
	for _, l := range [][]api.Commit{nil, {}, fourCommits()[:0]} {
		g := loads(t, "none", l, api.OK)
		stays(t, "Load of none", g, state{})
		land(t, g, 0, "main", puts("a"), landed(1))
	}
	c := fourCommits()
	for n := range len(c) + 1 {
		g := loads(t, "so many", c[:n], api.OK)
		if g.Head() != n {
			t.Errorf("Load of %d commits: the head is %d", n, g.Head())
		}
	}
	stays(t, "Load of four", loads(t, "four", c, api.OK), tell(four(t)))
}

// P5.3: Load takes no commit that is not just what Land makes: each way to be wrong, wherever it stands.
func TestLoadWrong(t *testing.T) {
	wrong := map[string]func(c *api.Commit){
		"Rev one more":       func(c *api.Commit) { c.Rev++ },
		"Rev one less":       func(c *api.Commit) { c.Rev-- },
		"Rev 0":              func(c *api.Commit) { c.Rev = 0 },
		"Rev far":            func(c *api.Commit) { c.Rev = math.MaxInt },
		"Rev below 0":        func(c *api.Commit) { c.Rev = -c.Rev },
		"Base its own":       func(c *api.Commit) { c.Base = c.Rev },
		"Base far":           func(c *api.Commit) { c.Base = math.MaxInt },
		"Base below 0":       func(c *api.Commit) { c.Base = -1 },
		"Base lowest":        func(c *api.Commit) { c.Base = math.MinInt },
		"a wrong Ref":        func(c *api.Commit) { c.Ref = "a/b" },
		"a long Ref":         func(c *api.Commit) { c.Ref = strings.Repeat("r", api.MaxPart+1) },
		"no changes":         func(c *api.Commit) { c.Changes = nil },
		"one twice":          func(c *api.Commit) { c.Changes = append(slices.Clone(c.Changes), c.Changes[0]) },
		"not sorted":         func(c *api.Commit) { c.Changes = append(slices.Clone(c.Changes), put("0", 1)) },
		"sorted by bytes":    func(c *api.Commit) { c.Changes = puts("x-y", "x/y") },
		"a wrong path":       func(c *api.Commit) { c.Changes = append(slices.Clone(c.Changes), put("x/", 1)) },
		"gone with a digest": func(c *api.Commit) { c.Changes = []api.Change{{Path: "x", Gone: true, Digest: 1}} },
		"too many changes": func(c *api.Commit) {
			c.Changes = nil
			for i := range api.MaxChanges + 1 {
				c.Changes = append(c.Changes, put(fmt.Sprintf("x%02d", i), 1))
			}
		},
	}
	for what, spoil := range wrong {
		for at := range fourCommits() {
			c := fourCommits()
			spoil(&c[at])
			loads(t, fmt.Sprint(what, " at ", at), c, api.ErrForm)
			loads(t, fmt.Sprint(what, " at the end, ", at), c[:at+1], api.ErrForm)
		}
	}
}

// P5.3: Load takes no commits in a wrong order, none twice, none left out, and none that would conflict.
func TestLoadWrongRow(t *testing.T) {
	c := fourCommits()
	for i := range c {
		for k := range i {
			l := slices.Clone(c)
			l[i], l[k] = l[k], l[i]
			loads(t, "two in each other's place", l, api.ErrForm)
		}
		loads(t, "one twice", slices.Insert(slices.Clone(c), i, c[i]), api.ErrForm)
		if i < 3 {
			loads(t, "one left out", slices.Delete(slices.Clone(c), i, i+1), api.ErrForm)
		}
	}
	l := append(slices.Clone(c), api.Commit{Rev: 5, Base: 2, Changes: puts("b")})
	loads(t, "a conflict", l, api.ErrForm)
	l[4].Changes = puts("x")
	loads(t, "no conflict", l, api.OK)
	l[4].Changes = puts("c")
	loads(t, "a conflict with what is gone", l, api.ErrForm)
	l[4].Base = 3
	loads(t, "what is gone, seen", l, api.OK)
	l[4].Base = 5
	loads(t, "ahead", l, api.ErrForm)
	l[0].Base = 1
	loads(t, "ahead at first", l, api.ErrForm)
}

// P5.3: other Bases, Refs and digests that Land takes as well make other graphs, with just those commits.
func TestLoadOthers(t *testing.T) {
	c := fourCommits()
	c[1].Base, c[1].Ref = 1, "old"
	c[2].Base, c[2].Ref = 2, ""
	c[3].Base, c[3].Changes[0] = 1, gone("b")
	g := loads(t, "others", c, api.OK)
	if got := g.Commits(); !reflect.DeepEqual(got, c) {
		t.Errorf("Commits: %v, want %v", got, c)
	}
	if r := g.Refs(); !slices.Equal(r, []graph.Ref{{Name: "main", Rev: 4}, {Name: "old", Rev: 2}}) {
		t.Errorf("Refs: %v", r)
	}
}

// R7: a nil graph, and one that no call made, answers zero values, and takes nothing.
func TestNotMade(t *testing.T) {
	for _, g := range []*graph.Graph{nil, {}, new(graph.Graph)} {
		for range 2 {
			is(t, "Land", g.Land(0, "main", puts("a")), api.Verdict{})
			is(t, "a wrong Land", g.Land(-1, "A", nil), api.Verdict{})
			is(t, "Land ahead", g.Land(1, "", puts("a")), api.Verdict{})
			is(t, "Read", g.Read("a"), api.Verdict{})
			is(t, "a wrong Read", g.Read("A"), api.Verdict{})
			is(t, "Log", g.Log(1, 1), api.Verdict{})
			is(t, "a wrong Log", g.Log(0, 0), api.Verdict{})
			if g.Head() != 0 || len(g.Refs()) != 0 || len(g.Leaves()) != 0 || len(g.Commits()) != 0 || g.Clone() != nil {
				t.Errorf("a graph that no call made: %+v, %v", tell(g), g.Clone())
			}
		}
	}
}
