package machine_test

import (
	"fmt"
	"math"
	"math/rand"
	"reflect"
	"slices"
	"strings"
	"testing"

	"wapentake/api"
	"wapentake/change"
	"wapentake/machine"
	"wapentake/path"
)

// plainMachine is a machine by the words of chapters 5 to 8: lists alone, of which all else is found anew each time.
type plainMachine struct {
	alpha, size, applied int
	epochs               []api.Epoch
	sessions             []api.Session // the one used longest ago first
	commits              []api.Commit
}

// clone is the machine, apart from it.
func (p plainMachine) clone() plainMachine {
	p.epochs, p.sessions, p.commits = slices.Clone(p.epochs), slices.Clone(p.sessions), slices.Clone(p.commits)
	return p
}

// apply is Apply.
func (p *plainMachine) apply(r api.Request) api.Verdict {
	if p.applied == api.MaxNumber {
		return bad()
	}
	v := nothing()
	switch r.Kind {
	case api.Noop:
	case api.Open:
		v = p.open(r.Name)
	default:
		v = p.inSession(r)
	}
	p.applied++
	for len(p.epochs) > 1 && p.epochs[1].From <= p.applied {
		p.epochs = p.epochs[1:]
	}
	return v
}

// find is the place of the session that is so, or -1.
func (p *plainMachine) find(so func(s api.Session) bool) int {
	return slices.IndexFunc(p.sessions, so)
}

// leave takes the session at that place away.
func (p *plainMachine) leave(i int) api.Session {
	s := p.sessions[i]
	p.sessions = slices.Delete(slices.Clone(p.sessions), i, i+1)
	return s
}

// open is Open.
func (p *plainMachine) open(name string) api.Verdict {
	if !path.Name(name) {
		return bad()
	}
	if i := p.find(func(s api.Session) bool { return s.Name == name }); i >= 0 {
		s := p.leave(i)
		p.sessions = append(p.sessions, s)
		return opened(s.Id)
	}
	id := p.applied + 1
	if i := p.find(func(s api.Session) bool { return s.Id == id }); i >= 0 {
		p.leave(i)
	}
	if len(p.sessions) == p.size {
		p.leave(0)
	}
	p.sessions = append(p.sessions, api.Session{Id: id, Name: name})
	return opened(id)
}

// inSession is what is done of all other Kinds.
func (p *plainMachine) inSession(r api.Request) api.Verdict {
	i := p.find(func(s api.Session) bool { return s.Id == r.Session })
	if i < 0 {
		return expired()
	}
	s := p.leave(i)
	p.sessions = append(p.sessions, s)
	switch {
	case r.Seq < 1:
		return bad()
	case r.Seq < s.Seq:
		return stale()
	case r.Seq == s.Seq:
		return s.Last
	}
	v := p.work(r)
	s.Seq, s.Last = r.Seq, v
	p.sessions[len(p.sessions)-1] = s
	return v
}

// work is what is done of a request that was not told yet.
func (p *plainMachine) work(r api.Request) api.Verdict {
	switch r.Kind {
	case api.Land:
		return p.land(r.Base, r.Ref, r.Changes)
	case api.Add:
		return p.member(r.Member, true)
	case api.Drop:
		return p.member(r.Member, false)
	}
	return p.look(r)
}

// look is Peek, ahead of MaxNumber.
func (p *plainMachine) look(r api.Request) api.Verdict {
	switch r.Kind {
	case api.Head:
		return headIs(len(p.commits))
	case api.Read:
		return p.read(r.Path)
	case api.Log:
		return p.log(r.From, r.Many)
	}
	return bad()
}

// changed is the last change of a path, and its revision: 0, if there is none.
func (p *plainMachine) changed(name string) (api.Change, int) {
	for i := len(p.commits) - 1; i >= 0; i-- {
		for _, x := range p.commits[i].Changes {
			if x.Path == name {
				return x, i + 1
			}
		}
	}
	return api.Change{}, 0
}

// land is graph.Land.
func (p *plainMachine) land(base int, ref string, l []api.Change) api.Verdict {
	if change.Check(l) != api.OK || ref != "" && !path.Name(ref) || base < 0 {
		return bad()
	}
	if base > len(p.commits) {
		return ahead(len(p.commits))
	}
	sorted := change.Sorted(l)
	for _, x := range sorted {
		if _, rev := p.changed(x.Path); rev > base {
			return conflict(x.Path, rev)
		}
	}
	p.commits = append(p.commits, commit(len(p.commits)+1, base, ref, sorted...))
	return landed(len(p.commits))
}

// read is graph.Read.
func (p *plainMachine) read(name string) api.Verdict {
	if n, ok := path.Normal(name); !ok || n != name {
		return bad()
	}
	if x, rev := p.changed(name); rev > 0 && !x.Gone {
		return found(name, x.Digest, rev)
	}
	return missing(name)
}

// log is graph.Log.
func (p *plainMachine) log(from, many int) api.Verdict {
	if from < 1 || many < 1 {
		return bad()
	}
	var l []api.Commit
	for _, c := range p.commits {
		if c.Rev >= from && len(l) < many && len(l) < api.MaxLog {
			l = append(l, c)
		}
	}
	return logIs(l...)
}

// member is Add and Drop.
func (p *plainMachine) member(id int, add bool) api.Verdict {
	last := p.epochs[len(p.epochs)-1]
	there := slices.Contains(last.Members, id)
	if id < 0 || id >= api.MaxReplicas || p.applied+p.alpha > api.MaxNumber || last.From > p.applied || add == there || !add && len(last.Members) == 1 {
		return refused(id)
	}
	next := from(p.applied + p.alpha)
	for i := range api.MaxReplicas {
		if i == id && add || i != id && slices.Contains(last.Members, i) {
			next.Members = append(next.Members, i)
		}
	}
	p.epochs = append(p.epochs, next)
	if add {
		return added(id)
	}
	return dropped(id)
}

// at is At.
func (p plainMachine) at(slot int) []int {
	l := p.epochs[0].Members
	for _, e := range p.epochs {
		if e.From <= slot {
			l = e.Members
		}
	}
	return l
}

// tell is what the machine tells of itself.
func (p plainMachine) tell() state {
	var union []int
	for i := range api.MaxReplicas {
		if slices.ContainsFunc(p.epochs, func(e api.Epoch) bool { return slices.Contains(e.Members, i) }) {
			union = append(union, i)
		}
	}
	return state{p.applied, p.alpha, p.size, len(p.commits), union, plainEpochs(p.epochs), plainSessions(p.sessions), plainCommits(p.commits)}
}

// tellsAs holds all that m tells against the plain one.
func tellsAs(t *testing.T, m *machine.Machine, p plainMachine) {
	t.Helper()
	stays(t, "all", m, p.tell())
	for _, e := range p.epochs {
		for slot := e.From - 1; slot <= e.From+1; slot++ {
			at(t, m, slot, p.at(slot)...)
		}
	}
	for _, r := range []api.Request{head(0, 0), read(1, 1, "a"), read(0, 0, "b"), log(0, 0, 1, 99), log(0, 0, 2, 1), log(0, 0, 0, 1), noop(), open("a"), {Kind: 99}} {
		is(t, "Peek "+brief(r), m.Peek(r), p.look(r))
	}
	if t.Failed() {
		t.FailNow()
	}
}

// both is a machine and a plain one, of three members.
func both(t *testing.T, alpha, size int) (*machine.Machine, plainMachine) {
	t.Helper()
	return news(t, ids(0, 1, 2), alpha, size, api.OK), plainMachine{alpha: alpha, size: size, epochs: []api.Epoch{from(0, 0, 1, 2)}}
}

// someRequests is requests of few names, sessions and numbers, so that rows of them meet.
func someRequests() []api.Request {
	return []api.Request{
		noop(), open("a"), open("b"), open("c"), open("C"),
		land(1, 1, 0, "", put("a", 1)), land(2, 1, 0, "main", put("b", 2), put("a", 2)), land(1, 2, 1, "", gone("a")),
		head(2, 1), read(1, 1, "a"), log(2, 2, 1, 9), head(1, 0), head(3, 1), {Kind: api.Kinds, Session: 1, Seq: 1},
		add(1, 1, 3), drop(1, 2, 0), add(2, 1, 0),
	}
}

// P8.2, P8.3: all rows of short requests, each upon a clone, tell what the chapters' words say, and Make of what is told is the machine.
func TestAllRows(t *testing.T) {
	for _, size := range []int{1, 2} {
		var walk func(m *machine.Machine, p plainMachine, left int)
		walk = func(m *machine.Machine, p plainMachine, left int) {
			for _, r := range someRequests() {
				n, q := m.Clone(), p.clone()
				is(t, "Apply "+brief(r), n.Apply(r), q.apply(r))
				if left > 0 {
					walk(n, q, left-1)
				} else {
					stays(t, "a row", n, q.tell())
				}
				if t.Failed() {
					t.Fatalf("behind %s, of %s", brief(r), brief(p.tell()))
				}
			}
			tellsAs(t, m, p)
			tellsAs(t, remakes(t, m), p)
		}
		m, p := both(t, size, size)
		walk(m, p, 3)
	}
}

// draw is a request that is near what may be done: the sessions of p, mostly, and their next numbers.
func draw(d *rand.Rand, p plainMachine) api.Request {
	names := []string{"a", "b", "c", "d", "e", "f", "g", "Z"}
	paths := []string{"a", "b", "c", "d", "a/b", "a-b", "b/c/d", "e", "f", "A"}
	r := api.Request{Kind: d.Intn(api.Kinds + 1), Name: names[d.Intn(len(names))], Path: paths[d.Intn(len(paths))], From: d.Intn(len(p.commits)+3) - 1, Many: d.Intn(5) - 1, Member: d.Intn(api.MaxReplicas+2) - 1}
	if len(p.sessions) > 0 {
		s := p.sessions[d.Intn(len(p.sessions))]
		r.Session, r.Seq = s.Id, s.Seq+1-max(0, d.Intn(8)-5)
	}
	if d.Intn(20) == 0 {
		r.Session = d.Intn(p.applied + 2)
	}
	r.Base = len(p.commits) + 1 - d.Intn(5)
	r.Ref = []string{"", "main", "old", "R"}[d.Intn(8)/2]
	for range 1 + d.Intn(3) {
		c := put(paths[d.Intn(len(paths))], uint64(d.Intn(3)))
		if d.Intn(3) == 0 {
			c = gone(c.Path)
		}
		r.Changes = append(r.Changes, c)
	}
	return r
}

// P8.4: long rows: each request is told what the chapters' words say; so is it by a machine of its own, by one that was made of what was told, by a clone.
func TestLongRows(t *testing.T) {
	codes := map[int]int{}
	for seed := range 32 {
		d := rand.New(rand.NewSource(int64(seed)))
		m, p := both(t, 1+seed%api.MaxAlpha, 1+seed%5)
		twin, _ := both(t, 1+seed%api.MaxAlpha, 1+seed%5)
		made, cloned := m, m
		for i := range 300 {
			if i%25 == 0 {
				made, cloned = remakes(t, m), m.Clone()
			}
			r := draw(d, p)
			want := p.apply(r)
			codes[want.Code]++
			for _, x := range []*machine.Machine{m, twin, made, cloned} {
				applies(t, x, r, want)
			}
			if i%5 == 0 {
				for _, x := range []*machine.Machine{m, twin, made, cloned} {
					tellsAs(t, x, p)
				}
			}
		}
	}
	for code := range api.Codes {
		if codes[code] < 20 {
			t.Errorf("the code %d was told %d times: the rows tell little", code, codes[code])
		}
	}
}

// P8.4: what is asked again by the same Session and Seq, with nothing else of that session between, has the same verdict, and makes no further commit, whatever others do.
func TestAskedAgain(t *testing.T) {
	again := 0
	for seed := range 20 {
		d := rand.New(rand.NewSource(int64(seed)))
		m, p := both(t, 2, 8)
		for range 150 {
			r := draw(d, p)
			v := m.Apply(r)
			p.apply(r)
			if r.Kind == api.Noop || r.Kind == api.Open || v.Code == api.Expired {
				continue
			}
			// A machine of its own goes on with others, so that those drawn are not held up.
			n, q := m.Clone(), p.clone()
			for range d.Intn(6) {
				other := draw(d, q)
				if other.Session == r.Session || other.Kind == api.Open {
					continue
				}
				n.Apply(other)
				q.apply(other)
			}
			head, commits := n.Head(), plainCommits(n.Commits())
			for _, kind := range []int{r.Kind, api.Land, api.Head, api.Add, 99} {
				other := r
				other.Kind, other.Base, other.Changes = kind, head, []api.Change{put("zz", 1)}
				applies(t, n, other, v)
				again++
			}
			if n.Head() != head || !reflect.DeepEqual(plainCommits(n.Commits()), commits) {
				t.Fatalf("%s, asked again, made a commit", brief(r))
			}
		}
	}
	if again < 5000 {
		t.Errorf("asked again %d times: the rows tell little", again)
	}
}

// P8.4, T2: whatever the row, of each Session and Seq there is one commit at most.
func TestOneCommitEach(t *testing.T) {
	for seed := range 10 {
		d := rand.New(rand.NewSource(int64(seed)))
		m, p := both(t, 1, 3)
		by := map[[2]int]int{} // by Session and Seq: how many commits
		for range 500 {
			r := draw(d, p)
			if d.Intn(2) == 0 {
				r.Kind = api.Land
			}
			was := m.Head()
			m.Apply(r)
			p.apply(r)
			if by[[2]int{r.Session, r.Seq}] += m.Head() - was; by[[2]int{r.Session, r.Seq}] > 1 {
				t.Fatalf("the session %d landed its %d twice", r.Session, r.Seq)
			}
		}
	}
}

// P8.3: a clone goes its own way, in its commits, sessions and their order, epochs, Applied; so does what it was cloned of, and clones of clones.
func TestClone(t *testing.T) {
	m := full(t)
	was := tell(m)
	c := m.Clone()
	stays(t, "a clone", c, was)
	for i, r := range []api.Request{noop(), open("dora"), open("anna"), head(1, 99), land(1, 100, 3, "main", put("q", 1)), add(1, 101, 4), drop(5, 99, 0), read(6, 99, "b"), {Kind: 99, Session: 1, Seq: 102}} {
		d, deeper := m.Clone(), c.Clone()
		d.Apply(r)
		stays(t, fmt.Sprint("a machine whose clone did ", i), m, was)
		before := tell(c)
		deeper.Apply(r)
		stays(t, fmt.Sprint("a clone whose clone did ", i), c, before)
		c.Apply(r)
		stays(t, fmt.Sprint("a machine whose clone went on to ", i), m, was)
	}
	then := tell(c)
	applies(t, m, open("emil"), opened(10))
	applies(t, m, land(10, 1, 3, "", put("b", 9)), landed(4))
	applies(t, m, drop(10, 2, 2), dropped(2))
	stays(t, "a clone whose machine went on", c, then)
}

// P8.4: Make of what a machine tells is it, also at the last slots that there are, and goes on as it.
func TestMakeOfTold(t *testing.T) {
	for left := range 12 {
		p := plainMachine{alpha: 3, size: 2, applied: api.MaxNumber - left, epochs: []api.Epoch{from(5, 1, 2)}, sessions: []api.Session{{Id: 3, Name: "a"}}}
		m := makes(t, 3, 2, p.applied, p.epochs, p.sessions, nil, api.OK)
		for i := range 14 {
			m = remakes(t, m)
			r := []api.Request{add(3, i+1, 5), land(3, i+1, 0, "", put(fmt.Sprint("p", i), 1)), open("b"), log(3, i+1, 1, 9), noop()}[i%5]
			is(t, "Apply "+brief(r), m.Apply(r), p.apply(r))
			stays(t, "what was made of what was told", m, p.tell())
		}
		if m.Applied() != api.MaxNumber {
			t.Errorf("Applied %d", m.Applied())
		}
	}
}

// R1: calls end, and none panics, at numbers, texts and lists that are as far out as may be.
func TestFarOut(t *testing.T) {
	numbers := []int{math.MinInt, math.MinInt + 1, -1 << 40, -1, 0, 1, 2, 1 << 31, 1 << 40, 1<<40 + 1, math.MaxInt - 1, math.MaxInt}
	texts := []string{"", "a", "\xff", strings.Repeat("../", 1000), strings.Repeat("a", 1<<16)}
	m, p := both(t, 8, 2)
	m.Apply(open("anna"))
	p.apply(open("anna"))
	for _, n := range numbers {
		for i, o := range numbers {
			s := texts[i%len(texts)]
			for kind := -1; kind <= api.Kinds; kind++ {
				for _, l := range [][]api.Change{nil, {put(s, 1)}, make([]api.Change, 1000)} {
					r := api.Request{Kind: kind, Name: s, Session: n, Seq: o, Base: o, Ref: s, Changes: l, Path: s, From: n, Many: o, Member: o}
					is(t, "Peek "+brief(r), m.Peek(r), p.look(r))
					is(t, "Apply "+brief(r), m.Apply(r), p.apply(r))
				}
			}
			at(t, m, n, p.at(n)...)
			_, e := machine.Make(n, o, n, []api.Epoch{from(o, n)}, []api.Session{{Id: n, Seq: o}}, []api.Commit{commit(n, o, s)})
			if e == api.OK {
				t.Errorf("Make of %d and %d", n, o)
			}
		}
	}
	stays(t, "far out", m, p.tell())
	if _, e := machine.Make(1, 1, 0, make([]api.Epoch, 100000), make([]api.Session, 100000), make([]api.Commit, 100000)); e != api.ErrForm {
		t.Errorf("Make of empty ones: %v", e)
	}
}

// rowOf reads bytes as requests, three bytes each.
func rowOf(b []byte) []api.Request {
	texts := []string{"a", "b", "c", "a/b", "", "A", "d", "e"}
	var l []api.Request
	for ; len(b) > 2; b = b[3:] {
		x, y, z := int(b[0]), int(b[1]), int(b[2])
		r := api.Request{Kind: x%10 - 1, Name: texts[y%8], Session: x / 10 % 8, Seq: y/8%8 - 1, Base: z % 8, Ref: texts[z/8%8], Path: texts[z/8%8], From: z % 8, Many: z / 16, Member: z % 17}
		for i := range y / 64 {
			r.Changes = append(r.Changes, api.Change{Path: texts[(z+3*i)%8], Digest: uint64(x / 128), Gone: z >= 128})
		}
		l = append(l, r)
	}
	return l
}

// No row of requests makes a call panic, and all that the chapter says holds of it.
func FuzzMachine(f *testing.F) {
	f.Add(byte(1), []byte{2, 0, 0, 13, 80, 0, 13, 80, 0, 14, 24, 0, 2, 1, 1, 16, 24, 3})
	f.Add(byte(37), []byte{2, 0, 0, 17, 16, 4, 18, 24, 0, 1, 1, 1, 1, 1, 1, 18, 32, 0, 19, 40, 0})
	f.Fuzz(func(t *testing.T, how byte, b []byte) {
		m, p := both(t, 1+int(how)%api.MaxAlpha, 1+int(how)/8%api.MaxSessions)
		for _, r := range rowOf(b[:min(len(b), 300)]) {
			c, was := m.Clone(), p.clone()
			applies(t, m, r, p.apply(r))
			stays(t, "a clone", c, was.tell())
		}
		tellsAs(t, m, p)
		tellsAs(t, remakes(t, m), p)
	})
}
