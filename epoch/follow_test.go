package epoch_test

import (
	"math"
	"math/rand"
	"slices"
	"testing"

	"wapentake/api"
	"wapentake/epoch"
)

// plainEpochs is epochs by the chapter's words.
type plainEpochs struct {
	alpha int
	list  []api.Epoch
}

// clone is the epochs, apart from them.
func (p plainEpochs) clone() plainEpochs {
	p.list = slices.Clone(p.list)
	return p
}

// at is At.
func (p plainEpochs) at(slot int) []int {
	l := p.list[0].Members
	for _, x := range p.list {
		if x.From <= slot {
			l = x.Members
		}
	}
	return l
}

// change is Change.
func (p *plainEpochs) change(slot, member int, add bool) api.Errno {
	last := p.list[len(p.list)-1]
	there := slices.Contains(last.Members, member)
	switch {
	case slot < 0, float64(slot)+float64(p.alpha) > api.MaxNumber, member < 0, member >= api.MaxReplicas:
		return api.ErrArg
	case last.From > slot:
		return api.ErrState
	case add && there:
		return api.ErrThere
	case !add && !there:
		return api.ErrNone
	case !add && len(last.Members) == 1:
		return api.ErrArg
	}
	next := api.Epoch{From: slot + p.alpha}
	for id := range api.MaxReplicas {
		if id == member && add || id != member && slices.Contains(last.Members, id) {
			next.Members = append(next.Members, id)
		}
	}
	p.list = append(p.list, next)
	return api.OK
}

// cut is Cut: an epoch leaves that another one follows at the slot or ahead of it.
func (p *plainEpochs) cut(slot int) {
	var stay []api.Epoch
	for i, x := range p.list {
		if i+1 == len(p.list) || p.list[i+1].From > slot {
			stay = append(stay, x)
		}
	}
	p.list = stay
}

// union is Union.
func (p plainEpochs) union() []int {
	var l []int
	for _, x := range p.list {
		l = append(l, x.Members...)
	}
	slices.Sort(l)
	return slices.Compact(l)
}

// step is a Change, or a Cut.
type step struct {
	cut          bool
	slot, member int
	add          bool
}

// near is a slot and those beside it.
func near(slot int) []int { return []int{slot - 1, slot, slot + 1} }

// take does s with epochs and with plain ones, and holds what they tell against each other: a Cut, that At stays from its slot on, too.
func (s step) take(t *testing.T, e *epoch.Epochs, p *plainEpochs) {
	t.Helper()
	if !s.cut {
		changes(t, e, s.slot, s.member, s.add, p.change(s.slot, s.member, s.add))
		return
	}
	was := e.Clone()
	e.Cut(s.slot)
	p.cut(s.slot)
	for _, x := range append(was.List(), api.Epoch{From: s.slot}) {
		for _, slot := range near(x.From) {
			if slot >= s.slot {
				at(t, e, slot, was.At(slot)...)
			}
		}
	}
}

// tellsAs holds all that e tells against the plain one, and that Load takes what it tells.
func tellsAs(t *testing.T, e *epoch.Epochs, p plainEpochs) {
	t.Helper()
	has(t, "List", e, p.list...)
	unites(t, e, p.union()...)
	for _, x := range p.list {
		for _, slot := range near(x.From) {
			at(t, e, slot, p.at(slot)...)
		}
	}
	for _, slot := range []int{math.MinInt, 0, 3, math.MaxInt} {
		at(t, e, slot, p.at(slot)...)
	}
	loads(t, p.alpha, api.OK, e.List()...)
	if t.Failed() {
		t.FailNow()
	}
}

// both is epochs that were loaded, and plain ones.
func both(t *testing.T, alpha int, l ...api.Epoch) (*epoch.Epochs, plainEpochs) {
	t.Helper()
	return loads(t, alpha, api.OK, l...), plainEpochs{alpha, l}
}

// someSteps is calls of few slots and members, so that rows of them meet.
func someSteps() []step {
	l := []step{{slot: -1, member: 1}, {slot: 3, member: -1, add: true}, {slot: 3, member: 15}}
	for _, slot := range []int{0, 1, 2, 3, 5} {
		l = append(l, step{cut: true, slot: slot})
		for _, member := range []int{0, 1, 14} {
			l = append(l, step{slot: slot, member: member}, step{slot: slot, member: member, add: true})
		}
	}
	return l
}

// P7.2, P7.3, P7.5: all rows of short steps, each upon a clone, tell what the chapter's words say.
func TestAllRows(t *testing.T) {
	all := someSteps()
	for _, first := range [][]api.Epoch{{from(0, 0)}, {from(0, 0, 14)}, {from(1, 1), from(2, 0, 1)}} {
		for _, alpha := range []int{1, 3} {
			var walk func(e *epoch.Epochs, p plainEpochs, left int)
			walk = func(e *epoch.Epochs, p plainEpochs, left int) {
				for _, s := range all {
					f, q := e.Clone(), p.clone()
					s.take(t, f, &q)
					tellsAs(t, f, q)
					if left > 0 {
						walk(f, q, left-1)
					}
				}
				tellsAs(t, e, p)
			}
			e, p := both(t, alpha, first...)
			walk(e, p, 2)
		}
	}
}

// draw is a step near the slot now, now and then far from it.
func draw(d *rand.Rand, now int) step {
	s := step{cut: d.Intn(6) == 0, slot: now - d.Intn(4), member: d.Intn(api.MaxReplicas+2) - 1, add: d.Intn(2) == 0}
	if d.Intn(20) == 0 {
		s.slot = []int{-1, 0, api.MaxNumber, math.MaxInt, math.MinInt}[d.Intn(5)]
	}
	if s.cut && s.slot > now {
		s.slot = now
	}
	return s
}

// P7.2, P7.3, P7.5: long rows: epochs, and those that were loaded of what they told, go on as the chapter's words say.
func TestLongRows(t *testing.T) {
	for alpha := 1; alpha <= api.MaxAlpha; alpha++ {
		d := rand.New(rand.NewSource(int64(alpha)))
		e, p := both(t, alpha, from(0, 2, 7))
		loaded := e.Clone()
		made := 0
		for i := range 2000 {
			s := draw(d, i)
			was, before := len(p.list), p.clone()
			s.take(t, e, &p)
			s.take(t, loaded, &before)
			tellsAs(t, e, p)
			tellsAs(t, loaded, p)
			if len(p.list) > was {
				made++
			}
			if i%40 == 0 {
				loaded = loads(t, alpha, api.OK, e.List()...)
			}
		}
		if made < 50 {
			t.Errorf("%d changes with alpha %d: too few to tell", made, alpha)
		}
	}
}

// P7.2, P7.5: the members of each slot are those that changes made alpha slots ahead of it, one by one, whatever is cut behind.
func TestMembersBySlot(t *testing.T) {
	const slots = 400
	for alpha := 1; alpha <= api.MaxAlpha; alpha++ {
		d := rand.New(rand.NewSource(int64(90 + alpha)))
		e := news(t, ids(4), alpha, api.OK)
		var members [slots + api.MaxAlpha][]int
		for i := range members {
			members[i] = ids(4)
		}
		for now := range slots {
			member, add := d.Intn(api.MaxReplicas), d.Intn(3) > 0
			if e.Change(now, member, add) == api.OK {
				next := slices.DeleteFunc(slices.Clone(members[now]), func(m int) bool { return m == member })
				if add {
					next = append(next, member)
					slices.Sort(next)
				}
				for i := now + alpha; i < len(members); i++ {
					members[i] = next
				}
			}
			if d.Intn(3) == 0 {
				e.Cut(now)
			}
			for slot := now; slot < len(members); slot++ {
				at(t, e, slot, members[slot]...)
			}
		}
	}
}

// P7.5: what At says from the cut's slot on stays, with every slot to cut at.
func TestCutKeepsAt(t *testing.T) {
	e := loads(t, 2, api.OK, from(2, 1), from(3, 2), from(6, 1), from(7, 1, 3), from(20, 4))
	for cut := -1; cut < 25; cut++ {
		c := e.Clone()
		c.Cut(cut)
		for slot := cut; slot < 30; slot++ {
			at(t, c, slot, e.At(slot)...)
		}
		// And no more stay than these slots have.
		for _, x := range c.List()[:len(c.List())-1] {
			if !slices.ContainsFunc(upTo(30), func(slot int) bool { return slot >= cut && slices.Equal(e.At(slot), x.Members) }) {
				t.Errorf("Cut %d left %v", cut, x)
			}
		}
	}
}

// P7.1, P7.3: Load of List is the same epochs, and they go on alike.
func TestLoadOfList(t *testing.T) {
	for alpha := 1; alpha <= api.MaxAlpha; alpha++ {
		e := news(t, ids(0, 1, 2), alpha, api.OK)
		adds(t, e, 5, 3, api.OK)
		f := loads(t, alpha, api.OK, e.List()...)
		for _, x := range []*epoch.Epochs{e, f} {
			adds(t, x, 4+alpha, 9, api.ErrState)
			drops(t, x, 5+alpha, 0, api.OK)
			has(t, "gone on", x, from(0, 0, 1, 2), from(5+alpha, 0, 1, 2, 3), from(5+2*alpha, 1, 2, 3))
			x.Cut(5 + alpha)
			has(t, "cut", x, from(5+alpha, 0, 1, 2, 3), from(5+2*alpha, 1, 2, 3))
		}
	}
}

// R1: calls end, and none panics, at numbers that are as far out as may be, each upon what the others left.
func TestFarOut(t *testing.T) {
	numbers := []int{math.MinInt, math.MinInt + 1, -1 << 40, -1, 0, 1, 14, 15, 1 << 31, 1 << 32, api.MaxNumber - 2, api.MaxNumber - 1, api.MaxNumber, api.MaxNumber + 1, math.MaxInt - 1, math.MaxInt}
	for alpha := 1; alpha <= api.MaxAlpha; alpha++ {
		e, p := both(t, alpha, from(0, 2, 7), from(1, 3))
		for _, slot := range numbers {
			for _, member := range numbers {
				for i := range 3 {
					step{cut: i == 2, slot: slot, member: member, add: i == 0}.take(t, e, &p)
					tellsAs(t, e, p)
				}
			}
		}
	}
}

// Many epochs that none cuts.
func TestManyEpochs(t *testing.T) {
	e := news(t, ids(0), 1, api.OK)
	const many = 100000
	for slot := range many {
		if err := e.Change(slot, 1, slot%2 == 0); err != api.OK {
			t.Fatalf("Change %d: %v", slot, err)
		}
	}
	if n := len(e.List()); n != many+1 {
		t.Errorf("%d epochs", n)
	}
	for _, slot := range []int{1, 2, 77777, 77778, many} {
		at(t, e, slot, upTo(1+slot%2)...)
	}
	e.Cut(many - 1)
	has(t, "cut", e, from(many-1, 0, 1), from(many, 0))
}

// rowOf reads bytes as steps, two bytes each.
func rowOf(b []byte) []step {
	var l []step
	for ; len(b) > 1; b = b[2:] {
		l = append(l, step{cut: b[0] >= 192, slot: int(b[1]) - 2, member: int(b[0]%18) - 1, add: b[0]/18%2 == 0})
	}
	return l
}

// No row of steps makes a call panic, and all that the chapter says holds of it.
func FuzzEpochs(f *testing.F) {
	f.Add(byte(1), []byte{4, 7, 1, 8, 1, 9, 200, 9, 19, 11, 2, 11})
	f.Add(byte(7), []byte{0, 0, 17, 3, 5, 3, 20, 10, 255, 20, 23, 20, 30, 1})
	f.Fuzz(func(t *testing.T, alpha byte, b []byte) {
		e, p := both(t, 1+int(alpha)%api.MaxAlpha, from(0, 0, 1, 2))
		for _, s := range rowOf(b[:min(len(b), 200)]) {
			c, was := e.Clone(), p.clone()
			s.take(t, e, &p)
			tellsAs(t, c, was)
		}
		tellsAs(t, e, p)
		tellsAs(t, loads(t, p.alpha, api.OK, e.List()...), p)
	})
}
