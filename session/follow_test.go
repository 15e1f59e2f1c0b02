package session_test

import (
	"cmp"
	"fmt"
	"math"
	"math/rand"
	"slices"
	"testing"

	"wapentake/api"
	"wapentake/session"
)

// used is a session, and when it was used last.
type used struct {
	api.Session
	at int
}

// plainTable is a table by the chapter's words: sessions by their Ids, in no order, with the times of their uses.
type plainTable struct {
	size, now int
	sessions  map[int]used
}

// clone is the table, apart from it.
func (p plainTable) clone() plainTable {
	all := map[int]used{}
	for id, s := range p.sessions {
		all[id] = s
	}
	p.sessions = all
	return p
}

// all is the sessions, by the times of their uses.
func (p plainTable) all() []api.Session {
	var l []used
	for _, s := range p.sessions {
		l = append(l, s)
	}
	slices.SortFunc(l, func(a, b used) int { return cmp.Compare(a.at, b.at) })
	var out []api.Session
	for _, s := range l {
		out = append(out, s.Session)
	}
	return out
}

// use keeps s as used now.
func (p *plainTable) use(s api.Session) {
	p.now++
	p.sessions[s.Id] = used{s, p.now}
}

// open is Open.
func (p *plainTable) open(name string, id int) int {
	for _, s := range p.sessions {
		if s.Name == name {
			p.use(s.Session)
			return s.Id
		}
	}
	delete(p.sessions, id)
	if len(p.sessions) == p.size {
		delete(p.sessions, p.all()[0].Id)
	}
	p.use(api.Session{Id: id, Name: name})
	return id
}

// ask is Ask.
func (p *plainTable) ask(id, seq int) (api.Verdict, bool) {
	s, ok := p.sessions[id]
	if !ok {
		return expired(), true
	}
	p.use(s.Session)
	if seq < 1 {
		return bad(), true
	}
	if seq < s.Seq {
		return stale(), true
	}
	if seq == s.Seq {
		return s.Last, true
	}
	return nothing(), false
}

// done is Done.
func (p *plainTable) done(id, seq int, v api.Verdict) bool {
	s, ok := p.sessions[id]
	if !ok || seq <= s.Seq {
		return false
	}
	s.Seq, s.Last = seq, v
	p.sessions[id] = s
	return true
}

// step is one call that may change a table.
type step struct {
	call    int // 0 Open, 1 Ask, 2 Done
	name    string
	id, seq int
	v       api.Verdict
}

// take does s with a table and with a plain one, and holds what they tell against each other.
func (s step) take(t *testing.T, x *session.Table, p *plainTable) {
	t.Helper()
	switch s.call {
	case 0:
		opens(t, x, s.name, s.id, p.open(s.name, s.id))
	case 1:
		v, ok := p.ask(s.id, s.seq)
		asks(t, x, s.id, s.seq, v, ok)
	case 2:
		does(t, x, s.id, s.seq, s.v, p.done(s.id, s.seq, s.v))
	}
}

// tellsAs holds all that x tells of itself against the plain one, and that no two sessions have one Id or one Name.
func tellsAs(t *testing.T, x *session.Table, p plainTable) {
	t.Helper()
	all := p.all()
	has(t, "All", x, all)
	for i, s := range all {
		finds(t, x, s)
		for _, o := range all[:i] {
			if o.Id == s.Id || o.Name == s.Name {
				t.Errorf("twice one Id or Name: %s", brief(all))
			}
		}
	}
	if len(all) > p.size {
		t.Errorf("%d sessions in a table of %d", len(all), p.size)
	}
	if t.Failed() {
		t.FailNow()
	}
}

// both is a table of that size and a plain one.
func both(t *testing.T, size int) (*session.Table, plainTable) {
	t.Helper()
	return empty(t, size), plainTable{size: size, sessions: map[int]used{}}
}

// someSteps is calls of few Names, Ids and numbers, so that rows of them meet.
func someSteps() []step {
	var l []step
	for i, name := range []string{"a", "b", "c", ""} {
		l = append(l, step{name: name, id: 1 + i%3}, step{name: name, id: 2 + i})
	}
	for _, seq := range []int{0, 1, 2} {
		l = append(l, step{call: 1, id: 1, seq: seq}, step{call: 1, id: 2, seq: seq})
	}
	return append(l, step{call: 2, id: 1, seq: 1, v: landed(1)}, step{call: 2, id: 1, seq: 2, v: whole()}, step{call: 2, id: 2, seq: 2, v: landed(2)})
}

// P6.1, P6.2: all rows of short steps, each upon a clone, tell what the chapter's words say, and Load of All is the table.
func TestAllRows(t *testing.T) {
	all := someSteps()
	for size := 1; size <= 3; size++ {
		var walk func(x *session.Table, p plainTable, left int)
		walk = func(x *session.Table, p plainTable, left int) {
			for _, s := range all {
				y, q := x.Clone(), p.clone()
				s.take(t, y, &q)
				tellsAs(t, y, q)
				if left > 0 {
					walk(y, q, left-1)
				}
			}
			tellsAs(t, x, p)
			tellsAs(t, loads(t, "All", size, x.All(), api.OK), p)
		}
		x, p := both(t, size)
		walk(x, p, 3)
	}
}

// draw is a step that is near those that were taken: of few Names, and of Ids that come and go.
func draw(d *rand.Rand, last int) step {
	s := step{call: d.Intn(3), name: fmt.Sprint("n", d.Intn(30)), id: last - d.Intn(25), seq: d.Intn(6) - 1}
	switch d.Intn(4) {
	case 0:
		s.v = whole()
		s.v.Commits = s.v.Commits[:d.Intn(4)]
	case 1:
		s.v = landed(d.Intn(100))
	}
	return s
}

// P6.4: long rows: a table and those that were loaded of what it told go on as the chapter's words say; who left is Expired until its Id is opened again.
func TestLongRows(t *testing.T) {
	for size := 1; size <= api.MaxSessions; size++ {
		d := rand.New(rand.NewSource(int64(size)))
		x, p := both(t, size)
		loaded := x
		left := map[int]int{} // by Id: the step at which it left
		most := 0
		for i := range 1500 {
			s := draw(d, 10+i/20)
			was := x.All()
			before := p.clone()
			s.take(t, x, &p)
			if loaded != x {
				s.take(t, loaded, &before)
			}
			tellsAs(t, x, p)
			tellsAs(t, loaded, p)
			for _, o := range was {
				if _, ok := x.Find(o.Id); !ok {
					left[o.Id] = i
				}
			}
			if _, ok := x.Find(s.id); ok && s.call == 0 {
				delete(left, s.id)
			}
			for id := range left {
				asks(t, x, id, i%4, expired(), true)
				does(t, x, id, 1+i%9, landed(1), false)
			}
			most = max(most, len(left))
			if i%50 == 0 {
				loaded = loads(t, "All", size, x.All(), api.OK)
			}
		}
		if most < 20 {
			t.Errorf("at most %d left a table of %d: the rows tell little", most, size)
		}
	}
}

// P6.4: who left is Expired, whatever others do, and whoever opens its Id again has it with Seq 0.
func TestExpiredForEver(t *testing.T) {
	for _, how := range []string{"by use", "by Id"} {
		x := empty(t, 2)
		opens(t, x, "a", 1, 1)
		does(t, x, 1, 3, landed(4), true)
		if how == "by Id" {
			opens(t, x, "b", 1, 1)
			opens(t, x, "c", 3, 3)
		}
		opens(t, x, "d", 4, 4)
		opens(t, x, "e", 5, 5)
		for i := range 100 {
			asks(t, x, 1, i%5, expired(), true)
			does(t, x, 1, 4+i, landed(1), false)
			misses(t, x, 1)
			opens(t, x, fmt.Sprint("f", i%7), 100+i, 100+i)
			x = loads(t, "All", 2, x.Clone().All(), api.OK)
		}
		// Its Name alone does not bring it back.
		opens(t, x, "a", 300, 300)
		asks(t, x, 1, 3, expired(), true)
		opens(t, x, "g", 1, 1)
		finds(t, x, api.Session{Id: 1, Name: "g"})
		asks(t, x, 1, 3, nothing(), false)
		asks(t, x, 300, 3, nothing(), false)
	}
}

// P6.4: Load of All is the table: with the same steps both tell the same from then on, of the same size alone.
func TestLoadOfAll(t *testing.T) {
	x := three(t, 3)
	asks(t, x, 1, 1, nothing(), false)
	for _, size := range []int{3, 4, 16} {
		y := loads(t, "All", size, x.All(), api.OK)
		has(t, "Load of All", y, x.All())
		opens(t, y, "d", 4, 4)
		orders(t, "Load of All, gone on", y, map[int]string{3: "cad", 4: "bcad", 16: "bcad"}[size])
	}
	loads(t, "All", 2, x.All(), api.ErrForm)
}

// R1: calls end, and none panics, at numbers, texts and lists that are as far out as may be.
func TestFarOut(t *testing.T) {
	numbers := []int{math.MinInt, math.MinInt + 1, -1 << 40, -1, 0, 1, 2, 1 << 31, 1 << 40, math.MaxInt - 1, math.MaxInt}
	x, p := both(t, 5)
	for _, id := range numbers {
		for _, seq := range numbers {
			for call, name := range []string{"", "a", "\xff"} {
				step{call: call, name: name, id: id, seq: seq, v: api.Verdict{Code: id, Rev: seq, Commits: make([]api.Commit, 3)}}.take(t, x, &p)
				step{name: fmt.Sprint(id), id: seq}.take(t, x, &p)
				tellsAs(t, x, p)
			}
		}
	}
	long := api.Verdict{Commits: make([]api.Commit, 100000)}
	opens(t, x, "long", 9, 9)
	does(t, x, 9, 1, long, true)
	asks(t, x, 9, 1, long, true)
	loads(t, "too many", 16, make([]api.Session, 1000000), api.ErrForm)
}

// rowOf reads bytes as steps, two bytes each.
func rowOf(b []byte) []step {
	var l []step
	for ; len(b) > 1; b = b[2:] {
		s := step{call: int(b[0] % 3), name: letters(int(b[0] / 3 % 8)), id: int(b[1] % 8), seq: int(b[1]/8%8) - 1}
		if s.v = landed(int(b[1])); b[0] >= 128 {
			s.v = whole()
		}
		l = append(l, s)
	}
	return l
}

// No row of steps makes a call panic, and all that the chapter says holds of it.
func FuzzTable(f *testing.F) {
	f.Add(byte(1), []byte{0, 1, 1, 17, 2, 17, 1, 17, 1, 9, 3, 2})
	f.Add(byte(3), []byte{0, 1, 3, 2, 6, 3, 9, 1, 12, 4, 129, 20, 128, 20, 130, 20, 130, 18})
	f.Fuzz(func(t *testing.T, size byte, b []byte) {
		x, p := both(t, 1+int(size)%api.MaxSessions)
		for _, s := range rowOf(b[:min(len(b), 200)]) {
			y := x.Clone()
			was := p.clone()
			s.take(t, x, &p)
			tellsAs(t, y, was)
		}
		tellsAs(t, x, p)
		tellsAs(t, loads(t, "All", p.size, x.All(), api.OK), p)
	})
}
