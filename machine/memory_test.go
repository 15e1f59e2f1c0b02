package machine_test

import (
	"math"
	"reflect"
	"slices"
	"testing"
	"unsafe"

	"wapentake/api"
	"wapentake/machine"
)

// spoilt and the next ones are what the tests write over memory that should be nobody else's.
func spoilt() api.Change         { return api.Change{Path: "spoilt", Gone: true, Digest: 99} }
func spoiltCommit() api.Commit   { return api.Commit{Rev: 99, Base: 99, Ref: "spoilt"} }
func spoiltEpoch() api.Epoch     { return api.Epoch{From: 99} }
func spoiltSession() api.Session { return api.Session{Id: 99, Seq: 99, Name: "spoilt"} }

// roomy is a list of what l has, with more of it in its spare room.
func roomy[T any](l []T, more T) []T {
	return append(append(make([]T, 0, len(l)+3), l...), slices.Repeat([]T{more}, 3)...)[:len(l)]
}

// roomKept tells whether the spare room of a roomy list is as it was.
func roomKept[T any](l []T, more T) bool {
	return cap(l) == len(l)+3 && reflect.DeepEqual(l[len(l):cap(l)], slices.Repeat([]T{more}, 3))
}

// spoil writes over a list, its spare room too.
func spoil[T any](l []T, with T) {
	for i := range l[:cap(l)] {
		l[:cap(l)][i] = with
	}
}

// roomyCommits is the commits, with spare room behind each list.
func roomyCommits(l []api.Commit) []api.Commit {
	l = roomy(l, spoiltCommit())
	for i := range l {
		l[i].Changes = roomy(l[i].Changes, spoilt())
	}
	return l
}

// commitsRoomKept tells whether the spare room of what roomyCommits told is as it was.
func commitsRoomKept(l []api.Commit) bool {
	return roomKept(l, spoiltCommit()) && !slices.ContainsFunc(l, func(c api.Commit) bool { return !roomKept(c.Changes, spoilt()) })
}

// spoilCommits and the next ones write over what was told or handed in, the lists in it and all spare room too.
func spoilCommits(l []api.Commit) {
	for _, c := range l {
		spoil(c.Changes, spoilt())
	}
	spoil(l, spoiltCommit())
}

func spoilSessions(l []api.Session) {
	for _, s := range l {
		spoilCommits(s.Last.Commits)
	}
	spoil(l, spoiltSession())
}

func spoilEpochs(l []api.Epoch) {
	for _, e := range l {
		spoil(e.Members, 11)
	}
	spoil(l, spoiltEpoch())
}

// R4: the members that New is given stay as they were, and are not kept.
func TestNewLeavesItsList(t *testing.T) {
	for _, want := range [][]int{{0, 1, 2}, {2, 1, 0}, {}} {
		for _, alpha := range []int{0, 1} {
			l := roomy(want, 13)
			m, e := machine.New(l, alpha, 2)
			if e == api.OK {
				applies(t, m, open("anna"), opened(1))
				applies(t, m, add(1, 1, 7), added(7))
				applies(t, m, drop(1, 2, 0), dropped(0))
			}
			if !slices.Equal(l, want) || !roomKept(l, 13) {
				t.Errorf("New wrote into its list: %v, was %v", l[:cap(l)], want)
			}
			was := tell(m)
			spoil(l, 11)
			stays(t, "a machine whose New's members were written over", m, was)
		}
	}
}

// R4: the lists that Make is given stay as they were, lists in them and spare room too, and are not kept.
func TestMakeLeavesItsLists(t *testing.T) {
	for _, applied := range []int{-1, 0, 8, 9} {
		l, s, c := roomy(epochs(), spoiltEpoch()), roomy(sessions(), spoiltSession()), roomyCommits(commits())
		for i := range l {
			l[i].Members = roomy(l[i].Members, 13)
		}
		for i := range s {
			s[i].Last.Commits = roomyCommits(s[i].Last.Commits)
		}
		m, e := machine.Make(1, 4, applied, l, s, c)
		if e == api.OK {
			m.Apply(land(4, 10, 2, "main", put("c", 1)))
			m.Apply(add(4, 11, 8))
			m.Apply(open("dora"))
			m.Apply(head(6, 20))
		}
		kept := roomKept(l, spoiltEpoch()) && roomKept(s, spoiltSession()) && commitsRoomKept(c)
		for _, x := range l {
			kept = kept && roomKept(x.Members, 13)
		}
		for _, x := range s {
			kept = kept && commitsRoomKept(x.Last.Commits)
		}
		if !kept {
			t.Errorf("Make, or what goes on behind it, wrote into spare room")
		}
		if !reflect.DeepEqual(plainEpochs(l), epochs()) || !reflect.DeepEqual(plainSessions(s), sessions()) || !reflect.DeepEqual(plainCommits(c), commits()) {
			t.Errorf("Make, or what goes on behind it, wrote into its lists")
		}
		was := tell(m)
		spoilEpochs(l)
		spoilSessions(s)
		spoilCommits(c)
		stays(t, "a machine whose Make's lists were written over", m, was)
	}
}

// R4: a request's Changes stay as they were, spare room too, and are not kept, whatever becomes of it.
func TestApplyLeavesItsChanges(t *testing.T) {
	m := some(t)
	for seq, l := range [][]api.Change{{put("c", 3), put("b", 2), put("a", 1)}, {put("b", 2), put("a", 1)}, {put("f", 1), gone("e")}, {put("d", 1), put("d", 2)}, {}} {
		for _, kind := range []int{api.Land, api.Noop, api.Open, api.Head, api.Read, api.Log, api.Add, api.Drop, 99} {
			r := land(1, seq+1, 0, "main", roomy(l, spoilt())...)
			r.Kind = kind
			m.Peek(r)
			m.Apply(r)
			if !slices.Equal(r.Changes, l) || !roomKept(r.Changes, spoilt()) {
				t.Errorf("a request of Kind %d was written into: %v", kind, r.Changes[:cap(r.Changes)])
			}
			was := tell(m)
			spoil(r.Changes, spoilt())
			stays(t, "a machine whose request was written over", m, was)
		}
	}
	if m.Head() != 2 {
		t.Errorf("the head: %d: the requests tell little", m.Head())
	}
}

// full is a machine that has something of everything: commits, two sessions whose Last is a log of them, epochs of which one is pending.
func full(t *testing.T) *machine.Machine {
	t.Helper()
	m := three(t)
	applies(t, m, open("bert"), opened(5))
	applies(t, m, open("carl"), opened(6))
	m.Apply(log(1, 4, 1, 9))
	m.Apply(log(5, 1, 2, 9))
	applies(t, m, add(6, 1, 9), added(9))
	if s := m.Sessions(); len(m.Epochs()) != 2 || len(s[0].Last.Commits) != 3 || len(s[1].Last.Commits) != 2 {
		t.Fatalf("a full machine: %s", brief(tell(m)))
	}
	return m
}

// R4: what is told is new memory, spare room too: who writes over it changes neither the machine, nor its clones, nor what was told.
func TestToldIsNew(t *testing.T) {
	m := full(t)
	was := tell(m)
	others := []*machine.Machine{m, m.Clone(), remakes(t, m)}
	peeked, told := m.Peek(log(0, 0, 1, 9)), m.Clone().Apply(log(1, 4, 1, 9))
	want := plainVerdict(told)
	for _, x := range others {
		spoilEpochs(x.Epochs())
		spoilSessions(x.Sessions())
		spoilCommits(x.Commits())
		spoil(x.Union(), 11)
		for slot := range 12 {
			spoil(x.At(slot), 11)
		}
		spoilCommits(x.Peek(log(0, 0, 1, 9)).Commits)
		for _, y := range others {
			stays(t, "a machine whose answers were written over", y, was)
		}
	}
	is(t, "what Peek told", peeked, want)
	is(t, "what Apply told", told, want)
}

// R4: the verdict that Apply tells is apart from the one that the session keeps, the first time and when it is told again.
func TestVerdictIsApart(t *testing.T) {
	m := full(t)
	want := m.Peek(log(0, 0, 1, 9))
	for range 3 {
		v := m.Apply(log(1, 5, 1, 9))
		is(t, "a log", v, want)
		spoilCommits(v.Commits)
		last(t, m, 1, 5, want)
		peeks(t, m, log(0, 0, 1, 9), want)
	}
	// What was told stays, too, when the machine goes on.
	v, l, s := m.Apply(log(1, 6, 1, 9)), m.Commits(), m.Sessions()
	commits, sessions := plainCommits(l), plainSessions(s)
	applies(t, m, land(1, 7, 3, "", put("a", 1)), landed(4))
	applies(t, m, open("dora"), opened(m.Applied()+1))
	is(t, "what was told", v, want)
	if !reflect.DeepEqual(plainCommits(l), commits) || !reflect.DeepEqual(plainSessions(s), sessions) {
		t.Errorf("what was told changed: %s, %s", brief(l), brief(s))
	}
}

// R4: no two lists of one answer share memory, spare room too.
func TestListsApart(t *testing.T) {
	m := full(t)
	was := tell(m)
	for _, x := range []*machine.Machine{m, m.Clone(), remakes(t, m)} {
		for i, e := range x.Epochs() {
			if !slices.Equal(e.Members, was.epochs[i].Members) {
				t.Errorf("who wrote over other Members changed those of epoch %d: %v", i, e.Members)
			}
			spoil(e.Members, 11)
		}
		for i, s := range x.Sessions() {
			apart(t, s.Last.Commits, was.sessions[i].Last.Commits)
		}
		apart(t, x.Commits(), was.commits)
		apart(t, x.Peek(log(0, 0, 1, 9)).Commits, was.commits)
		apart(t, x.Clone().Apply(log(1, 4, 1, 9)).Commits, was.commits)
		apart(t, x.Clone().Apply(log(1, 5, 1, 9)).Commits, was.commits)
	}
}

// apart holds that who writes over one commit's changes changes no other one's.
func apart(t *testing.T, l, want []api.Commit) {
	t.Helper()
	for i, c := range l {
		if !slices.Equal(c.Changes, want[i].Changes) {
			t.Errorf("who wrote over other changes changed those of commit %d: %v", i, c.Changes)
		}
		spoil(c.Changes, spoilt())
	}
}

// R4: nor does a machine keep texts that are handed in, or tell pieces of them.
func TestTextsAreCopied(t *testing.T) {
	text := []byte("anna/main/abc/def")
	piece := func(from, to int) string { return unsafe.String(&text[from], to-from) }
	m := news(t, ids(0), 1, 2, api.OK)
	m.Apply(open(piece(0, 4)))
	m.Apply(land(1, 1, 0, piece(5, 9), put(piece(10, 13), 1)))
	m.Apply(read(1, 2, piece(14, 17)))
	peeked := m.Peek(read(0, 0, piece(14, 17)))
	clashed := m.Clone().Apply(land(1, 3, 0, "", put(piece(10, 13), 1)))
	copy(text, "qqqqqqqqqqqqqqqqq")
	is(t, "what Peek told", peeked, missing("def"))
	is(t, "what Apply told", clashed, conflict("abc", 1))
	stays(t, "a machine whose texts were written over", m, state{3, 1, 2, 1, ids(0), []api.Epoch{from(0, 0)}, []api.Session{{Id: 1, Seq: 2, Name: "anna", Last: missing("def")}}, []api.Commit{commit(1, 0, "main", put("abc", 1))}})
	peeks(t, m, read(0, 0, "abc"), found("abc", 1, 1))
}

// R7: a nil machine, and one that no call made, tells zero values, and takes nothing.
func TestNotMade(t *testing.T) {
	for _, m := range []*machine.Machine{nil, {}, new(machine.Machine)} {
		for range 2 {
			for _, r := range append(all(1, 1), noop(), open("anna"), open("A"), head(0, 0)) {
				is(t, "Apply", m.Apply(r), nothing())
				is(t, "Peek", m.Peek(r), nothing())
			}
			stays(t, "a machine that no call made", m, state{})
			for _, slot := range []int{-1, 0, 1, math.MaxInt} {
				at(t, m, slot)
			}
			if m.Clone() != nil {
				t.Errorf("a clone of what no call made: %v", m.Clone())
			}
		}
	}
}
