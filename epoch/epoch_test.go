package epoch_test

import (
	"fmt"
	"math"
	"slices"
	"testing"

	"wapentake/api"
	"wapentake/epoch"
)

// ids is a list of numbers.
func ids(l ...int) []int { return l }

// upTo is the numbers from 0 on, so many of them.
func upTo(n int) []int {
	var l []int
	for i := range n {
		l = append(l, i)
	}
	return l
}

// from is an epoch.
func from(slot int, members ...int) api.Epoch { return api.Epoch{From: slot, Members: members} }

// brief is x as a text that can be read, however much x has.
func brief(x any) string { return fmt.Sprintf("%.300s", fmt.Sprint(x)) }

// same tells whether the epochs are the same; an empty list is as nil.
func same(a, b []api.Epoch) bool {
	return slices.EqualFunc(a, b, func(x, y api.Epoch) bool { return x.From == y.From && slices.Equal(x.Members, y.Members) })
}

// has holds what epochs tell of themselves against a list.
func has(t *testing.T, what string, e *epoch.Epochs, want ...api.Epoch) {
	t.Helper()
	if got := e.List(); !same(got, want) {
		t.Errorf("%s: %s, want %s", what, brief(got), brief(want))
	}
}

// at holds the members of a slot against a list.
func at(t *testing.T, e *epoch.Epochs, slot int, want ...int) {
	t.Helper()
	if got := e.At(slot); !slices.Equal(got, want) {
		t.Errorf("At %d: %v, want %v, of %s", slot, got, want, brief(e.List()))
	}
}

// unites holds what Union tells against a list.
func unites(t *testing.T, e *epoch.Epochs, want ...int) {
	t.Helper()
	if got := e.Union(); !slices.Equal(got, want) {
		t.Errorf("Union: %v, want %v, of %s", got, want, brief(e.List()))
	}
}

// adds holds what Change tells of one more against an error.
func adds(t *testing.T, e *epoch.Epochs, slot, member int, want api.Errno) {
	t.Helper()
	changes(t, e, slot, member, true, want)
}

// drops holds what Change tells of one less against an error.
func drops(t *testing.T, e *epoch.Epochs, slot, member int, want api.Errno) {
	t.Helper()
	changes(t, e, slot, member, false, want)
}

// changes holds what Change tells against an error, and that a refused one changes nothing.
func changes(t *testing.T, e *epoch.Epochs, slot, member int, add bool, want api.Errno) {
	t.Helper()
	was := e.List()
	if got := e.Change(slot, member, add); got != want {
		t.Errorf("Change %d %d %v: %v, want %v, of %s", slot, member, add, got, want, brief(was))
	} else if want != api.OK {
		has(t, "a refused Change", e, was...)
	}
}

// news makes epochs, or holds what New refuses them with against an error.
func news(t *testing.T, members []int, alpha int, want api.Errno) *epoch.Epochs {
	t.Helper()
	e, got := epoch.New(members, alpha)
	if got != want || (e != nil) != (want == api.OK) {
		t.Errorf("New %s %d: %v, %v, want %v", brief(members), alpha, e, got, want)
	}
	return e
}

// loads loads epochs, or holds what Load refuses them with against an error.
func loads(t *testing.T, alpha int, want api.Errno, l ...api.Epoch) *epoch.Epochs {
	t.Helper()
	e, got := epoch.Load(alpha, l)
	if got != want || (e != nil) != (want == api.OK) {
		t.Errorf("Load %d %s: %v, %v, want %v", alpha, brief(l), e, got, want)
	}
	if want == api.OK {
		has(t, "Load", e, l...)
	}
	return e
}

// The chapter's examples.
func TestExamples(t *testing.T) {
	e := news(t, ids(0, 1, 2), 2, api.OK)
	adds(t, e, 5, 3, api.OK)
	at(t, e, 6, 0, 1, 2)
	at(t, e, 7, 0, 1, 2, 3)
	drops(t, e, 6, 0, api.ErrState)
	drops(t, e, 7, 0, api.OK)
	at(t, e, 9, 1, 2, 3)
	if n := epoch.Quorum(upTo(4)); n != 3 {
		t.Errorf("Quorum of four: %d", n)
	}
	if !epoch.Most(ids(0, 1, 2), ids(2, 2, 0)) || epoch.Most(ids(0, 1, 2), ids(2, 2, 7)) {
		t.Error("Most of 0 1 2")
	}
}

// wrongMembers is lists that members may not be.
func wrongMembers() [][]int {
	all := upTo(api.MaxReplicas)
	return [][]int{
		nil, {},
		{-1}, {-1, 0}, {0, -1}, {math.MinInt}, {math.MinInt, 0}, {-api.MaxReplicas},
		{api.MaxReplicas}, {0, api.MaxReplicas}, {api.MaxReplicas - 1, api.MaxReplicas}, {math.MaxInt}, {0, math.MaxInt}, {1 << 32}, {256}, {64},
		{0, 0}, {3, 3}, {1, 2, 2}, {1, 1, 2}, {1, 2, 1}, {api.MaxReplicas - 1, api.MaxReplicas - 1},
		{1, 0}, {2, 1, 0}, {0, 2, 1}, {1, 0, 2}, {api.MaxReplicas - 1, 0},
		upTo(api.MaxReplicas + 1), append(all, api.MaxReplicas-1), append([]int{0}, upTo(api.MaxReplicas)...), append([]int{-1}, upTo(api.MaxReplicas)...), upTo(100000),
	}
}

// wrongAlphas is numbers that alpha may not be.
func wrongAlphas() []int {
	return []int{0, -1, -api.MaxAlpha, api.MaxAlpha + 1, api.MaxAlpha + 2, 1 << 32, 1<<32 + 1, math.MinInt, math.MinInt + 1, math.MaxInt}
}

// P7.1: New takes members that may be, all lots of the replicas, and makes one epoch of them, From 0.
func TestNewTakes(t *testing.T) {
	for bits := 1; bits < 1<<api.MaxReplicas; bits++ {
		var l []int
		for id := range api.MaxReplicas {
			if bits>>id&1 == 1 {
				l = append(l, id)
			}
		}
		e := news(t, l, 1+bits%api.MaxAlpha, api.OK)
		has(t, "New", e, from(0, l...))
		at(t, e, bits, l...)
		unites(t, e, l...)
	}
}

// P7.1: New refuses members that may not be.
func TestNewMembers(t *testing.T) {
	for _, l := range wrongMembers() {
		news(t, l, 1, api.ErrArg)
		news(t, l, api.MaxAlpha, api.ErrArg)
	}
	for a := -2; a < api.MaxReplicas+3; a++ {
		for b := -2; b < api.MaxReplicas+3; b++ {
			want := api.ErrArg
			if 0 <= a && a < b && b < api.MaxReplicas {
				want = api.OK
			}
			news(t, ids(a, b), 2, want)
		}
	}
}

// P7.1: New and Load take alphas from 1 to MaxAlpha, and no other; Load asks for alpha ahead of all else.
func TestAlpha(t *testing.T) {
	for alpha := 1; alpha <= api.MaxAlpha; alpha++ {
		news(t, ids(3), alpha, api.OK)
		news(t, nil, alpha, api.ErrArg)
		loads(t, alpha, api.OK, from(2, 3))
		loads(t, alpha, api.ErrForm)
	}
	for _, alpha := range wrongAlphas() {
		news(t, ids(3), alpha, api.ErrArg)
		news(t, nil, alpha, api.ErrArg)
		loads(t, alpha, api.ErrArg, from(2, 3))
		loads(t, alpha, api.ErrArg)
		loads(t, alpha, api.ErrArg, from(2))
		loads(t, alpha, api.ErrArg, from(-1, 3))
		loads(t, alpha, api.ErrArg, from(2, 3), from(2, 4))
	}
}

// P7.1: Load takes one epoch and many, from any slot on, however near each other, also such as no Change would make.
func TestLoadTakes(t *testing.T) {
	for _, l := range [][]api.Epoch{
		{from(0, 0)},
		{from(1, 0)},
		{from(7, upTo(api.MaxReplicas)...)},
		{from(api.MaxNumber, api.MaxReplicas-1)},
		{from(0, 1), from(1, 2)},
		{from(0, 1), from(api.MaxNumber, 1)},
		{from(api.MaxNumber-1, 1, 2), from(api.MaxNumber, 1, 2)},
		{from(3, 1, 2), from(4, 8, 9), from(5, 1, 2), from(900, 0)},
	} {
		for _, alpha := range []int{1, 2, api.MaxAlpha} {
			loads(t, alpha, api.OK, l...)
		}
	}
	var long []api.Epoch
	for i := range 50000 {
		long = append(long, from(3*i, i%api.MaxReplicas))
	}
	e := loads(t, 4, api.OK, long...)
	at(t, e, 3*40000+2, 40000%api.MaxReplicas)
	unites(t, e, upTo(api.MaxReplicas)...)
}

// P7.1: Load refuses no epochs, Members that may not be and Froms that may not be, wherever they stand.
func TestLoadRefuses(t *testing.T) {
	loads(t, 1, api.ErrForm)
	loads(t, 1, api.ErrForm, []api.Epoch{}...)
	for _, l := range wrongMembers() {
		loads(t, 1, api.ErrForm, from(3, l...))
		loads(t, 1, api.ErrForm, from(3, l...), from(4, 1))
		loads(t, 1, api.ErrForm, from(3, 1), from(4, l...))
		loads(t, 1, api.ErrForm, from(3, 1), from(4, l...), from(9, 1))
	}
	for _, slot := range []int{-1, -2, math.MinInt, api.MaxNumber + 1, api.MaxNumber + 2, math.MaxInt} {
		loads(t, 8, api.ErrForm, from(slot, 1))
		loads(t, 8, api.ErrForm, from(slot, 1), from(5, 2))
		loads(t, 8, api.ErrForm, from(5, 1), from(slot, 2))
		loads(t, 8, api.ErrForm, from(slot, 1), from(slot, 2))
	}
	for _, slot := range []int{0, 1, 5, 100, api.MaxNumber} {
		loads(t, 2, api.ErrForm, from(slot, 1), from(slot, 2))
		loads(t, 2, api.ErrForm, from(slot, 1), from(slot, 1))
		loads(t, 2, api.ErrForm, from(slot, 1), from(slot-1, 2))
		loads(t, 2, api.ErrForm, from(slot, 1), from(0, 2))
		loads(t, 2, api.ErrForm, from(0, 1), from(slot+1, 1), from(slot, 2))
	}
	// The one ahead is what a From is held against, not the first one.
	loads(t, 2, api.ErrForm, from(1, 1), from(9, 2), from(5, 3))
}

// P7.2: At is of the last epoch whose From is at most the slot, and of the first one, if there is none.
func TestAt(t *testing.T) {
	e := loads(t, 2, api.OK, from(4, 1), from(5, 2), from(9, 3, 4), from(api.MaxNumber, 5))
	for _, slot := range []int{math.MinInt, -1, 0, 1, 3, 4} {
		at(t, e, slot, 1)
	}
	for _, slot := range []int{5, 6, 7, 8} {
		at(t, e, slot, 2)
	}
	for _, slot := range []int{9, 10, 1 << 31, 1 << 32, api.MaxNumber - 1} {
		at(t, e, slot, 3, 4)
	}
	for _, slot := range []int{api.MaxNumber, api.MaxNumber + 1, math.MaxInt} {
		at(t, e, slot, 5)
	}
	has(t, "At changes nothing", e, from(4, 1), from(5, 2), from(9, 3, 4), from(api.MaxNumber, 5))
	one := news(t, ids(0, 14), 1, api.OK)
	for _, slot := range []int{math.MinInt, -1, 0, 1, api.MaxNumber, math.MaxInt} {
		at(t, one, slot, 0, 14)
	}
}

// P7.2: what is changed counts alpha slots later, and not one slot sooner, with every alpha.
func TestChangeCounts(t *testing.T) {
	for alpha := 1; alpha <= api.MaxAlpha; alpha++ {
		for _, slot := range []int{0, 1, 5, 1 << 32, api.MaxNumber - alpha} {
			e := news(t, ids(1, 4), alpha, api.OK)
			adds(t, e, slot, 2, api.OK)
			has(t, "one more", e, from(0, 1, 4), from(slot+alpha, 1, 2, 4))
			at(t, e, slot, 1, 4)
			at(t, e, slot+alpha-1, 1, 4)
			at(t, e, slot+alpha, 1, 2, 4)
			e = news(t, ids(1, 4), alpha, api.OK)
			drops(t, e, slot, 1, api.OK)
			has(t, "one less", e, from(0, 1, 4), from(slot+alpha, 4))
			at(t, e, slot+alpha-1, 1, 4)
			at(t, e, slot+alpha, 4)
		}
	}
}

// P7.2: each replica may come and go, and all of them may be members at once.
func TestChangeEach(t *testing.T) {
	for first := range api.MaxReplicas {
		e := news(t, ids(first), 1, api.OK)
		want := ids(first)
		slot := 0
		for id := range api.MaxReplicas {
			if id != first {
				adds(t, e, slot, id, api.OK)
				slot++
				want = append(want, id)
				slices.Sort(want)
			}
			at(t, e, slot, want...)
		}
		for id := range api.MaxReplicas {
			adds(t, e, slot, id, api.ErrThere)
		}
		for id := range api.MaxReplicas - 1 {
			drops(t, e, slot, id, api.OK)
			slot++
			at(t, e, slot, upTo(api.MaxReplicas)[id+1:]...)
		}
		drops(t, e, slot, api.MaxReplicas-1, api.ErrArg)
		unites(t, e, upTo(api.MaxReplicas)...)
	}
}

// P7.2: Change refuses slots and members that may not be, whether it adds or drops.
func TestChangeArg(t *testing.T) {
	for alpha := 1; alpha <= api.MaxAlpha; alpha++ {
		for _, slot := range []int{-1, -2, -alpha, math.MinInt, math.MinInt + alpha, api.MaxNumber - alpha + 1, api.MaxNumber, api.MaxNumber + 1, math.MaxInt - alpha, math.MaxInt - alpha + 1, math.MaxInt} {
			e := news(t, ids(0, 1), alpha, api.OK)
			adds(t, e, slot, 2, api.ErrArg)
			drops(t, e, slot, 1, api.ErrArg)
		}
	}
	for _, member := range []int{-1, -2, math.MinInt, api.MaxReplicas, api.MaxReplicas + 1, 64, 256, 1 << 32, math.MaxInt} {
		e := news(t, ids(0, 1), 3, api.OK)
		adds(t, e, 4, member, api.ErrArg)
		drops(t, e, 4, member, api.ErrArg)
	}
}

// P7.2: a change is pending as long as the last epoch's From is above the slot.
func TestChangePending(t *testing.T) {
	for alpha := 1; alpha <= api.MaxAlpha; alpha++ {
		e := news(t, ids(0, 1), alpha, api.OK)
		adds(t, e, 10, 2, api.OK)
		for slot := range 10 + alpha {
			adds(t, e, slot, 3, api.ErrState)
			drops(t, e, slot, 0, api.ErrState)
		}
		drops(t, e, 10+alpha, 0, api.OK)
		has(t, "no more pending", e, from(0, 0, 1), from(10+alpha, 0, 1, 2), from(10+2*alpha, 1, 2))
	}
	// Of several epochs it is the last one whose From is asked for, also where it is the only one.
	e := loads(t, 1, api.OK, from(3, 1), from(8, 2))
	adds(t, e, 7, 4, api.ErrState)
	adds(t, e, 8, 4, api.OK)
	e = loads(t, 1, api.OK, from(3, 1))
	adds(t, e, 2, 4, api.ErrState)
	adds(t, e, 3, 4, api.OK)
	e = loads(t, 1, api.OK, from(api.MaxNumber, 1))
	adds(t, e, api.MaxNumber-1, 4, api.ErrState)
	adds(t, e, api.MaxNumber, 4, api.ErrArg)
}

// P7.2: who is a member is asked of the last epoch: one that is there is not added, one that is not and the only one are not dropped.
func TestChangeThere(t *testing.T) {
	e := loads(t, 2, api.OK, from(0, 1, 2, 3), from(5, 3, 7))
	for id := range api.MaxReplicas {
		c := e.Clone()
		if id == 3 || id == 7 {
			adds(t, c, 5, id, api.ErrThere)
			drops(t, c, 5, id, api.OK)
			has(t, "one less", c, from(0, 1, 2, 3), from(5, 3, 7), from(7, 10-id))
			drops(t, c, 7, 10-id, api.ErrArg)
			drops(t, c, 7, id, api.ErrNone)
			adds(t, c, 7, 10-id, api.ErrThere)
			continue
		}
		drops(t, c, 5, id, api.ErrNone)
		adds(t, c, 5, id, api.OK)
		want := ids(3, 7, id)
		slices.Sort(want)
		has(t, "one more", c, from(0, 1, 2, 3), from(5, 3, 7), from(7, want...))
	}
	for id := range api.MaxReplicas {
		one := news(t, ids(id), 1, api.OK)
		drops(t, one, 0, id, api.ErrArg)
		drops(t, one, 0, (id+1)%api.MaxReplicas, api.ErrNone)
		adds(t, one, 0, id, api.ErrThere)
	}
}

// P7.2: where several errors could be told, it is the one that is named first.
func TestChangeFirst(t *testing.T) {
	// What may not be comes ahead of a change that is pending, and that ahead of who is a member.
	e := loads(t, 2, api.OK, from(5, 1))
	for _, slot := range []int{-1, api.MaxNumber - 1} {
		adds(t, e, slot, 1, api.ErrArg)
		drops(t, e, slot, 2, api.ErrArg)
	}
	for _, member := range []int{-1, api.MaxReplicas} {
		adds(t, e, 4, member, api.ErrArg)
		drops(t, e, 4, member, api.ErrArg)
		drops(t, e, 5, member, api.ErrArg)
	}
	adds(t, e, 4, 1, api.ErrState)
	drops(t, e, 4, 2, api.ErrState)
	drops(t, e, 4, 1, api.ErrState)
	// One that is not there comes ahead of the only one.
	drops(t, e, 5, 2, api.ErrNone)
	drops(t, e, 5, 1, api.ErrArg)
}

// P7.3: Cut lets those go that are ahead of the last one whose From is at most the slot.
func TestCut(t *testing.T) {
	all := []api.Epoch{from(4, 1), from(5, 2), from(9, 3, 4), from(api.MaxNumber, 5)}
	for _, c := range []struct{ slot, left int }{
		{math.MinInt, 0}, {-1, 0}, {0, 0}, {3, 0}, {4, 0},
		{5, 1}, {6, 1}, {8, 1},
		{9, 2}, {10, 2}, {api.MaxNumber - 1, 2},
		{api.MaxNumber, 3}, {api.MaxNumber + 1, 3}, {math.MaxInt, 3},
	} {
		e := loads(t, 2, api.OK, all...)
		for range 2 {
			e.Cut(c.slot)
			has(t, fmt.Sprint("Cut ", c.slot), e, all[c.left:]...)
		}
		e.Cut(0)
		has(t, "Cut ahead of all", e, all[c.left:]...)
		// The first one that stays is the one of all slots below it.
		at(t, e, 0, all[c.left].Members...)
		at(t, e, -1, all[c.left].Members...)
	}
	one := news(t, ids(1, 2), 1, api.OK)
	for _, slot := range []int{-1, 0, 1, api.MaxNumber, math.MaxInt} {
		one.Cut(slot)
		has(t, "the only one", one, from(0, 1, 2))
	}
}

// P7.3: epochs that were cut take changes as if nothing had left.
func TestCutGoesOn(t *testing.T) {
	e := news(t, ids(0, 1), 3, api.OK)
	adds(t, e, 2, 2, api.OK)
	e.Cut(4)
	has(t, "pending", e, from(0, 0, 1), from(5, 0, 1, 2))
	adds(t, e, 4, 3, api.ErrState)
	e.Cut(5)
	has(t, "counts", e, from(5, 0, 1, 2))
	drops(t, e, 4, 0, api.ErrState)
	drops(t, e, 5, 0, api.OK)
	has(t, "gone on", e, from(5, 0, 1, 2), from(8, 1, 2))
	e.Cut(100)
	drops(t, e, 100, 1, api.OK)
	e.Cut(103)
	drops(t, e, 103, 2, api.ErrArg)
	has(t, "one left", e, from(103, 2))
}

// P7.3: Union is over all epochs that there are, each number once, rising.
func TestUnion(t *testing.T) {
	e := loads(t, 2, api.OK, from(4, 9, 14), from(5, 2, 9), from(9, 0, 3))
	unites(t, e, 0, 2, 3, 9, 14)
	e.Cut(4)
	unites(t, e, 0, 2, 3, 9, 14)
	e.Cut(5)
	unites(t, e, 0, 2, 3, 9)
	e.Cut(9)
	unites(t, e, 0, 3)
	adds(t, e, 9, 1, api.OK)
	unites(t, e, 0, 1, 3)
	drops(t, e, 11, 0, api.OK)
	unites(t, e, 0, 1, 3)
	e.Cut(13)
	unites(t, e, 1, 3)
}

// P7.3: a clone goes its own way, and so does what it was cloned of, whichever changes first.
func TestClone(t *testing.T) {
	e := news(t, ids(0, 1), 1, api.OK)
	adds(t, e, 0, 2, api.OK)
	adds(t, e, 1, 3, api.OK)
	was := e.List()
	a, b := e.Clone(), e.Clone()
	adds(t, a, 2, 4, api.OK)
	drops(t, b, 5, 0, api.OK)
	has(t, "what was cloned", e, was...)
	has(t, "a clone", a, append(was[:3:3], from(3, 0, 1, 2, 3, 4))...)
	has(t, "another clone", b, append(was[:3:3], from(6, 1, 2, 3))...)
	adds(t, e, 9, 7, api.OK)
	e.Cut(100)
	c := a.Clone()
	c.Cut(2)
	has(t, "what was cloned, gone on", e, from(10, 0, 1, 2, 3, 7))
	has(t, "a clone of a clone", c, from(2, 0, 1, 2, 3), from(3, 0, 1, 2, 3, 4))
	has(t, "a clone", a, append(was[:3:3], from(3, 0, 1, 2, 3, 4))...)
	has(t, "another clone", b, append(was[:3:3], from(6, 1, 2, 3))...)
	// A clone has its alpha, too.
	d := news(t, ids(0), 5, api.OK).Clone()
	adds(t, d, 1, 1, api.OK)
	has(t, "alpha of a clone", d, from(0, 0), from(6, 0, 1))
}

// R7: epochs that no call made, and nil, tell zero values, and ErrState at whatever arguments.
func TestNoEpochs(t *testing.T) {
	for _, e := range []*epoch.Epochs{nil, {}, new(epoch.Epochs)} {
		for _, slot := range []int{math.MinInt, -1, 0, 1, api.MaxNumber, math.MaxInt} {
			e.Cut(slot)
			if l := e.At(slot); len(l) != 0 {
				t.Errorf("At %d: %v", slot, l)
			}
			for _, member := range []int{-1, 0, 14, 15} {
				for _, add := range []bool{true, false} {
					if err := e.Change(slot, member, add); err != api.ErrState {
						t.Errorf("Change %d %d: %v", slot, member, err)
					}
				}
			}
		}
		if l, u, c := e.List(), e.Union(), e.Clone(); len(l) != 0 || len(u) != 0 || c != nil {
			t.Errorf("List %v, Union %v, Clone %v", l, u, c)
		}
	}
}
