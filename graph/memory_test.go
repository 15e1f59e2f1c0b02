package graph_test

import (
	"fmt"
	"slices"
	"testing"
	"unsafe"

	"wapentake/api"
	"wapentake/graph"
)

// spoilt is what the tests write over memory that should be nobody else's.
var spoilt = api.Change{Path: "spoilt", Gone: true, Digest: 99}

// roomy is a list of what l has, with more of it in its spare room.
func roomy[T any](l []T, more T) []T {
	return append(append(make([]T, 0, len(l)+3), l...), slices.Repeat([]T{more}, 3)...)[:len(l)]
}

// spoil writes over a list, its spare room too.
func spoil[T any](l []T, with T) {
	for i := range l[:cap(l)] {
		l[:cap(l)][i] = with
	}
}

// spoilCommits writes over commits and their changes, spare room too.
func spoilCommits(l []api.Commit) {
	for _, c := range l {
		spoil(c.Changes, spoilt)
	}
	spoil(l, api.Commit{Rev: 99, Base: 99, Ref: "spoilt"})
}

// R4: the changes that Land is given stay as they were, spare room too, whatever it tells.
func TestLandLeavesItsList(t *testing.T) {
	for _, base := range []int{-1, 0, 4, 9} {
		for _, l := range [][]api.Change{nil, puts("a"), puts("z", "y", "x"), puts("b", "a"), puts("z", "z"), puts("z", "..", "a")} {
			in := roomy(l, spoilt)
			four(t).Land(base, "main", in)
			if !slices.Equal(in, l) || !slices.Equal(in[len(in):cap(in)], slices.Repeat([]api.Change{spoilt}, 3)) {
				t.Errorf("Land upon %d changed its list: %v", base, in[:cap(in)])
			}
		}
	}
}

// R4: a graph keeps no list that Land was given.
func TestLandKeepsNoList(t *testing.T) {
	g := four(t)
	for _, l := range [][]api.Change{puts("x"), puts("y1", "y2", "y3"), puts("z3", "z2", "z1")} {
		in := roomy(l, spoilt)
		if v := g.Land(4, "", in); v.Code != api.Landed {
			t.Fatalf("Land: %v", v)
		}
		was := tell(g)
		spoil(in, spoilt)
		stays(t, "a graph whose Land's list was written over", g, was)
	}
}

// R4: nor does it keep the texts, or tell pieces of them.
func TestTextsAreCopied(t *testing.T) {
	text := []byte("zzz/aaa/main/c/bbb")
	piece := func(from, to int) string { return unsafe.String(&text[from], to-from) }
	g := four(t)
	land(t, g, 4, piece(8, 12), []api.Change{put(piece(0, 3), 1), put(piece(4, 7), 2)}, landed(5))
	was := tell(g)
	refused := g.Land(0, piece(8, 12), []api.Change{put(piece(0, 3), 1)})
	yes, no, never := g.Read(piece(4, 7)), g.Read(piece(13, 14)), g.Read(piece(15, 18))
	loaded, e := graph.Load([]api.Commit{{Rev: 1, Ref: piece(8, 12), Changes: []api.Change{put(piece(0, 3), 1)}}})
	if e != api.OK {
		t.Fatalf("Load: %v", e)
	}
	copy(text, "qqqqqqqqqqqqqqqqqq")
	stays(t, "a graph whose texts were written over", g, was)
	is(t, "a conflict", refused, conflict("zzz", 5))
	is(t, "what is there", yes, found("aaa", 2, 5))
	is(t, "what is gone", no, missing("c"))
	is(t, "what never was", never, missing("bbb"))
	is(t, "Read of what is loaded", loaded.Read("zzz"), found("zzz", 1, 1))
	if r := loaded.Refs(); !slices.Equal(r, []graph.Ref{{Name: "main", Rev: 1}}) {
		t.Errorf("Refs of what is loaded: %v", r)
	}
}

// R4: what a graph tells is new memory, spare room too: who writes over it changes neither the graph, nor its clones, nor what was told.
func TestToldIsNew(t *testing.T) {
	g := four(t)
	h := g.Clone()
	was := tell(g)
	log := g.Log(2, 2)
	told, again := g.Commits(), g.Commits()
	spoilCommits(told)
	spoilCommits(g.Log(1, 9).Commits)
	spoilCommits(g.Log(9, 9).Commits)
	spoilCommits(h.Commits())
	spoil(g.Refs(), graph.Ref{Name: "spoilt", Rev: 99})
	spoil(h.Refs(), graph.Ref{Name: "spoilt", Rev: 99})
	spoil(g.Leaves(), api.Leaf{Path: "spoilt", Rev: 99})
	spoil(h.Leaves(), api.Leaf{Path: "spoilt", Rev: 99})
	stays(t, "a graph whose answers were written over", g, was)
	stays(t, "its clone", h, was)
	is(t, "Log", log, logIs(fourCommits()[1:3]...))
	is(t, "Commits", logIs(again...), logIs(fourCommits()...))
	is(t, "Read a", g.Read("a"), found("a", 4, 2))
	land(t, g, 4, "", puts("x"), landed(5))
	is(t, "Log of all", g.Log(1, 9), logIs(append(fourCommits(), api.Commit{Rev: 5, Base: 4, Changes: puts("x")})...))
}

// R4: no two lists of one answer share memory: who makes one of them longer, or writes over its room, leaves the others.
func TestListsApart(t *testing.T) {
	g := graph.New()
	for i := range 20 {
		land(t, g, i, "", puts(fmt.Sprint("b", i), fmt.Sprint("a", i), "c")[:1+i%3], landed(i+1))
	}
	want := g.Commits()
	for _, l := range [][]api.Commit{g.Commits(), g.Log(1, 99).Commits} {
		for i := range l {
			spoil(append(l[i].Changes, spoilt), spoilt)
			for k := i + 1; k < len(l); k++ {
				if !slices.Equal(l[k].Changes, want[k].Changes) {
					t.Fatalf("who wrote over the changes of %d changed those of %d", i, k)
				}
			}
		}
	}
}

// R4: Load's list stays as it was, lists in it and spare room too, and is not kept.
func TestLoadLeavesItsList(t *testing.T) {
	more := api.Commit{Rev: 99, Ref: "spoilt"}
	for _, wrong := range []bool{false, true} {
		l := roomy(fourCommits(), more)
		for i := range l {
			l[i].Changes = roomy(l[i].Changes, spoilt)
		}
		if wrong {
			slices.Reverse(l[3].Changes)
		}
		want := plainly(l)
		g, e := graph.Load(l)
		is(t, "what was handed in", logIs(l...), logIs(want...))
		is(t, "its spare room", logIs(l[len(l):cap(l)]...), logIs(more, more, more))
		for _, c := range l {
			if !slices.Equal(c.Changes[len(c.Changes):cap(c.Changes)], slices.Repeat([]api.Change{spoilt}, 3)) {
				t.Errorf("Load wrote into the spare room of %v", c)
			}
		}
		if (e != api.OK) != wrong {
			t.Fatalf("Load: %v", e)
		}
		if !wrong {
			spoilCommits(l)
			stays(t, "a graph whose Load's list was written over", g, tell(four(t)))
		}
	}
}
