package epoch_test

import (
	"slices"
	"testing"

	"wapentake/api"
	"wapentake/epoch"
)

// roomy is a list of what l has, with more of it in its spare room.
func roomy[T any](l []T, more T) []T {
	return append(append(make([]T, 0, len(l)+3), l...), slices.Repeat([]T{more}, 3)...)[:len(l)]
}

// spoil writes over a list, its spare room too.
func spoil[T any](l []T, with T) {
	for i := range l[:cap(l)] {
		l[:cap(l)][i] = with
	}
}

// spoilAll writes over epochs and their Members, spare room too.
func spoilAll(l []api.Epoch) {
	for _, x := range l {
		spoil(x.Members, 11)
	}
	spoil(l, from(99, 11))
}

// untouched holds a list of numbers that was made roomy with 13 against what it was, spare room too.
func untouched(t *testing.T, what string, l, want []int) {
	t.Helper()
	if room := l[len(l):cap(l)]; !slices.Equal(l, want) || !slices.Equal(room, ids(13, 13, 13)) {
		t.Errorf("%s: %v with the spare room %v, was %v", what, l, room, want)
	}
}

// untouchedAll holds epochs that were made roomy against what they were, spare room too.
func untouchedAll(t *testing.T, what string, l, want []api.Epoch) {
	t.Helper()
	room := l[len(l):cap(l)]
	if !same(l, want) || !same(room, slices.Repeat([]api.Epoch{from(77, 12)}, 3)) {
		t.Errorf("%s: %v with the spare room %v, was %v", what, l, room, want)
	}
	for i, x := range l {
		untouched(t, what, x.Members, want[i].Members)
	}
}

// R4: the members that New is given stay as they were, and are not kept.
func TestNewLeavesItsList(t *testing.T) {
	for _, alpha := range []int{0, 1} {
		for _, want := range [][]int{{0, 1, 2}, {2, 1, 0}, {1, 1}, {}} {
			l := roomy(want, 13)
			e, err := epoch.New(l, alpha)
			untouched(t, "New", l, want)
			if err != api.OK {
				continue
			}
			adds(t, e, 0, 3, api.OK)
			drops(t, e, 1, 0, api.OK)
			untouched(t, "Change", l, want)
			was := e.List()
			spoil(l, 11)
			has(t, "epochs whose New's members were written over", e, was...)
			at(t, e, 0, want...)
		}
	}
}

// R4: the epochs that Load is given stay as they were, their Members and all spare room too, and are not kept.
func TestLoadLeavesItsList(t *testing.T) {
	for _, want := range [][]api.Epoch{
		{from(3, 0, 1), from(5, 2, 4), from(9, 7)},
		{from(3, 0, 1), from(5, 4, 2), from(9, 7)},
		{from(3, 0, 1), from(2, 2, 4)},
	} {
		l := roomy(want, from(77, 12))
		for i := range l {
			l[i].Members = roomy(l[i].Members, 13)
		}
		e, err := epoch.Load(1, l)
		untouchedAll(t, "Load", l, want)
		if err != api.OK {
			continue
		}
		adds(t, e, 9, 8, api.OK)
		untouchedAll(t, "Change", l, want)
		e.Cut(5)
		untouchedAll(t, "Cut", l, want)
		adds(t, e, 10, 9, api.OK)
		drops(t, e, 11, 7, api.OK)
		untouchedAll(t, "Change", l, want)
		was := e.List()
		spoilAll(l)
		has(t, "epochs whose Load's list was written over", e, was...)
	}
}

// R4: one list may stand in many epochs that are handed in; what is told of them stands apart.
func TestLoadOfOneList(t *testing.T) {
	one := ids(1, 5, 6)
	e := loads(t, 1, api.OK, from(1, one...), from(2, one...), from(3, one[:2]...), from(4, one[1:]...))
	spoil(one, 11)
	has(t, "one list", e, from(1, 1, 5, 6), from(2, 1, 5, 6), from(3, 1, 5), from(4, 5, 6))
	listsApart(t, e)
}

// listsApart holds that no two lists of what List tells share memory, spare room too.
func listsApart(t *testing.T, e *epoch.Epochs) {
	t.Helper()
	want, l := e.List(), e.List()
	for i, x := range l {
		if !slices.Equal(x.Members, want[i].Members) {
			t.Fatalf("who wrote over other Members changed those of epoch %d: %v", i, x.Members)
		}
		spoil(append(x.Members, 11), 11)
		spoil(x.Members, 11)
	}
	has(t, "epochs whose List was written over", e, want...)
}

// R4: what is told is new memory, spare room too: who writes over it changes neither the epochs, nor their clones, nor what was told.
func TestToldIsNew(t *testing.T) {
	e := news(t, ids(0, 1, 2), 1, api.OK)
	adds(t, e, 0, 3, api.OK)
	drops(t, e, 1, 0, api.OK)
	adds(t, e, 2, 0, api.OK)
	c := e.Clone()
	f := loads(t, 1, api.OK, e.List()...)
	cut := e.Clone()
	cut.Cut(2)
	for _, x := range []*epoch.Epochs{e, c, f, cut} {
		was, then, all := x.List(), x.At(1), x.Union()
		for slot := range 5 {
			spoil(x.At(slot), 11)
			spoil(append(x.At(slot), 11), 11)
		}
		spoil(x.Union(), 11)
		spoilAll(x.List())
		listsApart(t, x)
		has(t, "epochs whose answers were written over", x, was...)
		at(t, x, 1, then...)
		unites(t, x, all...)
	}
	has(t, "what was cloned", e, c.List()...)
	// What is told stays, too, when the epochs go on.
	was, told := e.Clone().List(), e.List()
	then, all := e.At(3), e.Union()
	drops(t, e, 3, 1, api.OK)
	e.Cut(9)
	adds(t, e, 9, 14, api.OK)
	if !same(told, was) || !slices.Equal(then, ids(0, 1, 2, 3)) || !slices.Equal(all, ids(0, 1, 2, 3)) {
		t.Errorf("what was told changed: %v, %v, %v", told, then, all)
	}
}

// R4: Quorum and Most leave their lists as they were.
func TestMostLeavesItsLists(t *testing.T) {
	for _, want := range [][]int{{2, 0, 1}, {1, 1, 0}, {}} {
		for _, some := range [][]int{{1, 0}, {0, 2, 0, 9}, {}} {
			members, l := roomy(want, 13), roomy(some, 13)
			epoch.Quorum(members)
			epoch.Most(members, l)
			untouched(t, "Most, of its members", members, want)
			untouched(t, "Most, of its ids", l, some)
			epoch.Most(members, members)
			untouched(t, "Most of one list", members, want)
		}
	}
}

// R4: nil and an empty list are one.
func TestNilAndEmpty(t *testing.T) {
	for _, l := range [][]int{nil, {}, make([]int, 0, 5)} {
		news(t, l, 1, api.ErrArg)
		loads(t, 1, api.ErrForm, api.Epoch{Members: l})
		if epoch.Quorum(l) != 1 || epoch.Most(l, l) || epoch.Most(l, ids(0)) || epoch.Most(ids(0), l) {
			t.Errorf("Quorum, Most of none")
		}
	}
	for _, l := range [][]api.Epoch{nil, {}, make([]api.Epoch, 0, 5)} {
		if e, err := epoch.Load(1, l); e != nil || err != api.ErrForm {
			t.Errorf("Load of none: %v, %v", e, err)
		}
	}
}
