package session_test

import (
	"fmt"
	"math"
	"reflect"
	"strings"
	"testing"

	"wapentake/api"
	"wapentake/session"
)

// landed and the next ones are verdicts, with the fields that they need and no others.
func landed(rev int) api.Verdict { return api.Verdict{Code: api.Landed, Rev: rev} }
func nothing() api.Verdict       { return api.Verdict{} }
func bad() api.Verdict           { return api.Verdict{Code: api.Bad} }
func expired() api.Verdict       { return api.Verdict{Code: api.Expired} }
func stale() api.Verdict         { return api.Verdict{Code: api.Stale} }

// whole is a verdict in which each field has something.
func whole() api.Verdict {
	return api.Verdict{Code: api.LogIs, Session: 3, Rev: 4, Path: "a/b", Digest: 5, Member: 6, Commits: []api.Commit{
		{Rev: 1, Base: 0, Ref: "main", Changes: []api.Change{{Path: "a", Digest: 7}, {Path: "b", Gone: true}}},
		{Rev: 2, Base: 1, Changes: []api.Change{{Path: "c", Digest: 8}}},
		{Rev: 3, Base: 1, Ref: "old"},
	}}
}

// plainVerdict is v in new memory, with each empty list as nil, since they are one.
func plainVerdict(v api.Verdict) api.Verdict {
	commits := v.Commits
	v.Commits = nil
	for _, c := range commits {
		c.Changes = append([]api.Change(nil), c.Changes...)
		v.Commits = append(v.Commits, c)
	}
	return v
}

// plainly is the sessions in new memory, with each empty list as nil.
func plainly(l []api.Session) []api.Session {
	var out []api.Session
	for _, s := range l {
		s.Last = plainVerdict(s.Last)
		out = append(out, s)
	}
	return out
}

// brief is x as a text that can be read, however much x has.
func brief(x any) string { return fmt.Sprintf("%.600q", fmt.Sprintf("%+v", x)) }

// has holds what a table tells of its sessions against a list.
func has(t *testing.T, what string, x *session.Table, want []api.Session) {
	t.Helper()
	if got, want := plainly(x.All()), plainly(want); !reflect.DeepEqual(got, want) {
		t.Errorf("%s: %s, want %s", what, brief(got), brief(want))
	}
}

// order is the Names of a table's sessions, the one used longest ago first.
func order(x *session.Table) string {
	out := ""
	for _, s := range x.All() {
		out += s.Name
	}
	return out
}

// orders holds the Names against a text.
func orders(t *testing.T, what string, x *session.Table, want string) {
	t.Helper()
	if got := order(x); got != want {
		t.Errorf("%s: %q, want %q", what, got, want)
	}
}

// opens holds what Open tells against an Id.
func opens(t *testing.T, x *session.Table, name string, id, want int) {
	t.Helper()
	if got := x.Open(name, id); got != want {
		t.Errorf("Open %.30q %d: %d, want %d", name, id, got, want)
	}
}

// asks holds what Ask tells against a verdict and whether it is one.
func asks(t *testing.T, x *session.Table, id, seq int, want api.Verdict, ok bool) {
	t.Helper()
	got, told := x.Ask(id, seq)
	if told != ok || !reflect.DeepEqual(plainVerdict(got), plainVerdict(want)) {
		t.Errorf("Ask %d %d: %s, %v, want %s, %v", id, seq, brief(got), told, brief(want), ok)
	}
}

// does holds what Done tells against want.
func does(t *testing.T, x *session.Table, id, seq int, v api.Verdict, want bool) {
	t.Helper()
	if got := x.Done(id, seq, v); got != want {
		t.Errorf("Done %d %d: %v, want %v", id, seq, got, want)
	}
}

// finds holds what Find tells against the session s.
func finds(t *testing.T, x *session.Table, s api.Session) {
	t.Helper()
	got, ok := x.Find(s.Id)
	if got.Last = plainVerdict(got.Last); !ok || !reflect.DeepEqual(got, plainly([]api.Session{s})[0]) {
		t.Errorf("Find %d: %s, %v, want %s", s.Id, brief(got), ok, brief(s))
	}
}

// misses holds that Find finds none with that Id.
func misses(t *testing.T, x *session.Table, id int) {
	t.Helper()
	if got, ok := x.Find(id); ok || !reflect.DeepEqual(got, api.Session{}) {
		t.Errorf("Find %d: %s, %v", id, brief(got), ok)
	}
}

// empty is a table of that size without sessions.
func empty(t *testing.T, size int) *session.Table {
	t.Helper()
	x, e := session.New(size)
	if e != api.OK || x == nil {
		t.Fatalf("New %d: %v, %v", size, x, e)
	}
	return x
}

// abc is the sessions of three: a, b and c with the Ids 1, 2 and 3, of which b and c have done something.
func abc() []api.Session {
	return []api.Session{{Id: 1, Name: "a"}, {Id: 2, Name: "b", Seq: 4, Last: whole()}, {Id: 3, Name: "c", Seq: 1, Last: landed(9)}}
}

// three is a table of that size with the sessions of abc.
func three(t *testing.T, size int) *session.Table {
	t.Helper()
	x := empty(t, size)
	opens(t, x, "a", 1, 1)
	opens(t, x, "b", 2, 2)
	opens(t, x, "c", 3, 3)
	does(t, x, 2, 4, whole(), true)
	does(t, x, 3, 1, landed(9), true)
	return x
}

// letters is so many names, each of one letter.
func letters(n int) string { return "abcdefghijklmnopqrstuvwxyz"[:n] }

// The chapter's examples.
func TestExamples(t *testing.T) {
	x := empty(t, 1)
	opens(t, x, "a", 1, 1)
	asks(t, x, 1, 1, nothing(), false)
	does(t, x, 1, 1, landed(5), true)
	asks(t, x, 1, 1, landed(5), true)
	asks(t, x, 1, 0, bad(), true)
	opens(t, x, "a", 7, 1)
	opens(t, x, "b", 9, 9)
	asks(t, x, 1, 2, expired(), true)
}

// P6.1: New takes the sizes from 1 to MaxSessions, and no other.
func TestNew(t *testing.T) {
	for _, size := range []int{0, -1, -api.MaxSessions, api.MaxSessions + 1, api.MaxSessions + 2, 1 << 32, 1<<32 + 1, math.MinInt, math.MinInt + 1, math.MaxInt} {
		if x, e := session.New(size); x != nil || e != api.ErrArg {
			t.Errorf("New %d: %v, %v", size, x, e)
		}
	}
	for size := 1; size <= api.MaxSessions; size++ {
		has(t, "a new table", empty(t, size), nil)
	}
}

// P6.1: a table of each size takes so many sessions, and from then on the one used longest ago leaves.
func TestSize(t *testing.T) {
	for size := 1; size <= api.MaxSessions; size++ {
		x := empty(t, size)
		names := letters(26)
		for i, name := range names {
			opens(t, x, string(name), i+100, i+100)
			orders(t, fmt.Sprint("a table of ", size), x, names[max(0, i+1-size):i+1])
			finds(t, x, api.Session{Id: i + 100, Name: string(name)})
		}
	}
}

// P6.1: Open of a Name that is there is its Id, whichever is asked for; it is a use, and changes nothing else.
func TestOpenNameThere(t *testing.T) {
	for _, size := range []int{3, 4, api.MaxSessions} {
		for i, s := range abc() {
			// An Id that is nobody's, its own, those of the others: who has it stays.
			for _, id := range []int{7, 1, 2, 3, 0, -1, math.MaxInt} {
				x := three(t, size)
				opens(t, x, s.Name, id, s.Id)
				rest := abc()
				has(t, "Open of a Name that is there", x, append(append(rest[:i:i], rest[i+1:]...), s))
			}
		}
	}
}

// P6.1: Open of a new Name with an Id that is there: who had it leaves, and nobody else does, in a full table and in one that is not.
func TestOpenIdThere(t *testing.T) {
	for _, size := range []int{3, 4, api.MaxSessions} {
		for i, s := range abc() {
			x := three(t, size)
			opens(t, x, "d", s.Id, s.Id)
			rest := abc()
			has(t, "Open with an Id that is there", x, append(append(rest[:i:i], rest[i+1:]...), api.Session{Id: s.Id, Name: "d"}))
			asks(t, x, s.Id, 1, nothing(), false)
			// The Name that left is not there: it has an Id of its own then.
			opens(t, x, s.Name, 50, 50)
		}
	}
	x := empty(t, 1)
	opens(t, x, "a", 1, 1)
	does(t, x, 1, 3, landed(2), true)
	opens(t, x, "b", 1, 1)
	has(t, "a table of one", x, []api.Session{{Id: 1, Name: "b"}})
}

// P6.1: Open of a new Name with a new Id: in a full table the one used longest ago leaves, else nobody.
func TestOpenNew(t *testing.T) {
	d := api.Session{Id: 4, Name: "d"}
	full, roomy := three(t, 3), three(t, 4)
	opens(t, full, "d", 4, 4)
	opens(t, roomy, "d", 4, 4)
	has(t, "a full table", full, append(abc()[1:], d))
	has(t, "a table with room", roomy, append(abc(), d))
	misses(t, full, 1)
	finds(t, roomy, abc()[0])
	// Who was used meanwhile stays.
	x := three(t, 3)
	asks(t, x, 1, 1, nothing(), false)
	opens(t, x, "d", 4, 4)
	orders(t, "a was asked", x, "cad")
	opens(t, x, "c", 9, 3)
	opens(t, x, "e", 5, 5)
	orders(t, "c was opened", x, "dce")
}

// P6.1, R6: Names and Ids may be any.
func TestOpenAny(t *testing.T) {
	names := []string{"", " ", "A", "a/b", "..", "\x00", "\xff", "é", "a\n", strings.Repeat("n", api.MaxPart+1), strings.Repeat("n", 1<<20)}
	ids := []int{0, -1, 1, api.MaxNumber, api.MaxNumber + 1, math.MaxInt, math.MaxInt - 1, math.MinInt, math.MinInt + 1, 1 << 32, -1 << 32}
	x := empty(t, len(names))
	var want []api.Session
	for i, name := range names {
		opens(t, x, name, ids[i], ids[i])
		want = append(want, api.Session{Id: ids[i], Name: name})
		has(t, "any", x, want)
	}
	for i, name := range names {
		opens(t, x, name, 77, ids[i])
		asks(t, x, ids[i], 1, nothing(), false)
	}
	has(t, "any", x, want)
}

// P6.2: what Ask tells, by the session's Seq; each but Expired is a use, and none changes anything else.
func TestAsk(t *testing.T) {
	for _, c := range []struct {
		id, seq int
		want    api.Verdict
		ok      bool
	}{
		{1, math.MinInt, bad(), true}, {1, -1, bad(), true}, {1, 0, bad(), true}, {1, 1, nothing(), false}, {1, 2, nothing(), false}, {1, math.MaxInt, nothing(), false},
		{2, math.MinInt, bad(), true}, {2, -4, bad(), true}, {2, -1, bad(), true}, {2, 0, bad(), true}, {2, 1, stale(), true}, {2, 2, stale(), true}, {2, 3, stale(), true},
		{2, 4, whole(), true}, {2, 5, nothing(), false}, {2, 6, nothing(), false}, {2, math.MaxInt, nothing(), false},
		{3, -1, bad(), true}, {3, 0, bad(), true}, {3, 1, landed(9), true}, {3, 2, nothing(), false},
	} {
		x := three(t, 3)
		asks(t, x, c.id, c.seq, c.want, c.ok)
		rest := abc()
		want := append(append(rest[:c.id-1:c.id-1], rest[c.id:]...), abc()[c.id-1])
		has(t, fmt.Sprint("Ask ", c.id, " ", c.seq), x, want)
		asks(t, x, c.id, c.seq, c.want, c.ok)
		has(t, fmt.Sprint("Ask ", c.id, " ", c.seq, " again"), x, want)
	}
}

// P6.2: Expired, whatever the seq is, where there is no such session; nothing changes.
func TestAskExpired(t *testing.T) {
	for _, x := range []*session.Table{three(t, 3), three(t, 4)} {
		for _, id := range []int{0, 4, -1, -2, math.MinInt, math.MaxInt, 1<<32 + 1} {
			for _, seq := range []int{math.MinInt, -1, 0, 1, 4, 5, math.MaxInt} {
				asks(t, x, id, seq, expired(), true)
			}
		}
		has(t, "asked in vain", x, abc())
	}
	asks(t, empty(t, 1), 0, 0, expired(), true)
}

// P6.2: Done takes a seq above the session's Seq alone; it is no use.
func TestDone(t *testing.T) {
	for i, s := range abc() {
		for _, seq := range []int{math.MinInt, -1, 0, s.Seq - 1, s.Seq, 1, 2, 3, 4, 5, 6, math.MaxInt - 1, math.MaxInt} {
			x, want := three(t, 3), abc()
			does(t, x, s.Id, seq, landed(8), seq > s.Seq)
			if seq > s.Seq {
				want[i].Seq, want[i].Last = seq, landed(8)
			}
			has(t, fmt.Sprint("Done ", s.Id, " ", seq), x, want)
		}
	}
	x := three(t, 3)
	for _, id := range []int{0, 4, -1, math.MinInt, math.MaxInt} {
		for _, seq := range []int{-1, 0, 1, 9, math.MaxInt} {
			does(t, x, id, seq, landed(8), false)
			does(t, empty(t, 1), id, seq, landed(8), false)
		}
	}
	has(t, "Done of none", x, abc())
}

// P6.2: the Last is all of the verdict, and nothing of the one that was there.
func TestDoneKeepsAll(t *testing.T) {
	x := three(t, 3)
	verdicts := []api.Verdict{whole(), landed(1), whole(), nothing(), {Code: api.Codes + 5, Rev: -1, Digest: math.MaxUint64}, {Code: -1, Path: "\xff/../"}, {Commits: []api.Commit{{}}}, {}}
	for i, v := range verdicts {
		seq := 10 + 3*i
		does(t, x, 1, seq, v, true)
		finds(t, x, api.Session{Id: 1, Seq: seq, Name: "a", Last: v})
		asks(t, x, 1, seq, v, true)
		asks(t, x, 1, seq-1, stale(), true)
		asks(t, x, 1, seq+1, nothing(), false)
		does(t, x, 1, seq, bad(), false)
		asks(t, x, 1, seq, v, true)
	}
	does(t, x, 1, math.MaxInt, landed(3), true)
	asks(t, x, 1, math.MaxInt, landed(3), true)
	asks(t, x, 1, math.MaxInt-1, stale(), true)
	does(t, x, 1, math.MaxInt, landed(4), false)
	asks(t, x, 1, math.MaxInt, landed(3), true)
}

// P6.2: Find tells the session as it is, or that there is none; it is no use.
func TestFind(t *testing.T) {
	x := three(t, 4)
	for range 2 {
		for _, s := range abc() {
			finds(t, x, s)
			orders(t, "found", x, "abc")
		}
		for _, id := range []int{0, 4, -1, math.MinInt, math.MaxInt} {
			misses(t, x, id)
			misses(t, empty(t, 2), id)
		}
		has(t, "found", x, abc())
	}
}

// P6.2: All is in the order of use, whatever the uses were.
func TestAll(t *testing.T) {
	x := three(t, 3)
	for i, step := range []struct {
		do   func()
		want string
	}{
		{func() {}, "abc"},
		{func() { x.Ask(1, 1) }, "bca"},
		{func() { x.Ask(1, 0) }, "bca"},
		{func() { x.Open("c", 1) }, "bac"},
		{func() { x.Ask(2, 1) }, "acb"},
		{func() { x.Done(1, 1, landed(1)) }, "acb"},
		{func() { x.Find(1) }, "acb"},
		{func() { x.Ask(9, 1) }, "acb"},
		{func() { x.Ask(3, 1) }, "abc"},
		{func() { x.Open("d", 2) }, "acd"},
		{func() { x.Open("e", 5) }, "cde"},
		{func() { x.Clone().Ask(3, 1) }, "cde"},
	} {
		step.do()
		orders(t, fmt.Sprint("step ", i), x, step.want)
		orders(t, fmt.Sprint("step ", i, ", once more"), x, step.want)
	}
}

// P6.2: a clone is the same, of the same size, and goes its own way, and so does the one it was made of.
func TestClone(t *testing.T) {
	steps := map[string]func(x *session.Table){
		"Open of a Name":   func(x *session.Table) { x.Open("a", 8) },
		"Open with an Id":  func(x *session.Table) { x.Open("d", 2) },
		"Open":             func(x *session.Table) { x.Open("d", 4) },
		"Ask of the first": func(x *session.Table) { x.Ask(1, 1) },
		"Ask":              func(x *session.Table) { x.Ask(2, 1) },
		"Done":             func(x *session.Table) { x.Done(2, 9, landed(7)) },
		"Done of the last": func(x *session.Table) { x.Done(3, 9, nothing()) },
	}
	for _, size := range []int{3, 4, 5} {
		for what, step := range steps {
			x := three(t, size)
			y := x.Clone()
			has(t, "a clone", y, abc())
			step(x)
			has(t, what+", of the clone", y, abc())
			after := x.All()
			step(y)
			has(t, what+", by the clone", y, after)
			y.Open("x", 21)
			y.Open("y", 22)
			y.Done(22, 5, landed(2))
			has(t, what+", when the clone went on", x, after)
		}
	}
	none := empty(t, 1)
	opens(t, none.Clone(), "a", 1, 1)
	has(t, "none, when a clone went on", none, nil)
}

// P6.2: a clone is taken at each step, and each has a session of its own then: none of them tells of another's.
func TestClonesOfAll(t *testing.T) {
	for size := 1; size <= api.MaxSessions; size++ {
		x := empty(t, size)
		var clones []*session.Table
		names := letters(26)
		for i, name := range names {
			y, z := x.Clone(), x.Clone()
			y.Open("Y", 200)
			y.Done(200, 1, landed(i))
			z.Open("Z", 300)
			clones = append(clones, y, z)
			x.Open(string(name), i+1)
		}
		for i, y := range clones {
			orders(t, "a clone", y, names[max(0, i/2+1-size):i/2]+[]string{"Y", "Z"}[i%2])
			if i%2 == 0 {
				asks(t, y, 200, 1, landed(i/2), true)
				asks(t, y, 300, 1, expired(), true)
			}
		}
		orders(t, "the one that was cloned", x, names[26-size:])
	}
}

// loads holds Load of l against an error; with one there is no table.
func loads(t *testing.T, what string, size int, l []api.Session, want api.Errno) *session.Table {
	t.Helper()
	x, e := session.Load(size, l)
	if e != want || (x == nil) != (want != api.OK) {
		t.Errorf("Load of %s: %s, %v, want %v", what, brief(x), e, want)
	}
	return x
}

// P6.3: Load is the table with these, in that order of use, and of that size.
func TestLoad(t *testing.T) {
	for _, l := range [][]api.Session{nil, {}, abc()[:0]} {
		for size := 1; size <= api.MaxSessions; size++ {
			x := loads(t, "none", size, l, api.OK)
			has(t, "Load of none", x, nil)
			asks(t, x, 0, 1, expired(), true)
			opens(t, x, "a", 1, 1)
		}
	}
	x := loads(t, "as many as there may be", 3, abc(), api.OK)
	has(t, "Load", x, abc())
	asks(t, x, 2, 4, whole(), true)
	opens(t, x, "c", 9, 3)
	opens(t, x, "d", 4, 4)
	orders(t, "Load, gone on", x, "bcd")
	y := loads(t, "fewer than there may be", 4, abc(), api.OK)
	opens(t, y, "d", 4, 4)
	orders(t, "Load, gone on", y, "abcd")
	opens(t, y, "e", 5, 5)
	orders(t, "Load, gone on", y, "bcde")
}

// P6.3: more than size is ErrForm, just size is not, for each size.
func TestLoadTooMany(t *testing.T) {
	var l []api.Session
	for i, name := range letters(26) {
		l = append(l, api.Session{Id: 40 - i, Name: string(name), Seq: i})
	}
	for size := 1; size <= api.MaxSessions; size++ {
		for n := range l {
			if n > size {
				loads(t, "too many", size, l[:n], api.ErrForm)
				continue
			}
			has(t, "Load", loads(t, "so many", size, l[:n], api.OK), l[:n])
		}
	}
}

// P6.3: two with one Id, two with one Name, a Seq below 0 are ErrForm, wherever they stand.
func TestLoadWrong(t *testing.T) {
	for i := range 3 {
		for _, seq := range []int{-1, -2, math.MinInt} {
			l := abc()
			l[i].Seq = seq
			loads(t, "a Seq below 0", 3, l, api.ErrForm)
			loads(t, "a Seq below 0", api.MaxSessions, l[i:i+1], api.ErrForm)
		}
		for k := range 3 {
			if i == k {
				continue
			}
			l := abc()
			l[i].Id = l[k].Id
			loads(t, "one Id", 3, l, api.ErrForm)
			l = abc()
			l[i].Name = l[k].Name
			loads(t, "one Name", api.MaxSessions, l, api.ErrForm)
			l = abc()
			l[i] = l[k]
			loads(t, "one twice", 4, l, api.ErrForm)
		}
	}
	loads(t, "two without anything", 2, make([]api.Session, 2), api.ErrForm)
	loads(t, "two with an empty Name", 2, []api.Session{{Id: 1}, {Id: 2}}, api.ErrForm)
	loads(t, "two with the Id 0", 2, []api.Session{{Name: "a"}, {Name: "b"}}, api.ErrForm)
}

// P6.3: New's error, ahead of ErrForm.
func TestLoadSize(t *testing.T) {
	wrong := abc()
	wrong[1].Seq = -1
	for _, size := range []int{0, -1, api.MaxSessions + 1, math.MinInt, math.MaxInt} {
		for _, l := range [][]api.Session{nil, abc(), wrong, make([]api.Session, 2), make([]api.Session, api.MaxSessions+2)} {
			loads(t, "a wrong size", size, l, api.ErrArg)
		}
	}
}

// P6.3, R6: what is not said to be refused is taken: any Ids and Names, a Seq with any Last.
func TestLoadAny(t *testing.T) {
	l := []api.Session{
		{}, {Id: -1, Name: "A/.."}, {Id: math.MinInt, Name: "\xff", Seq: math.MaxInt}, {Id: math.MaxInt, Name: strings.Repeat("x", 1<<16), Last: whole()},
		{Id: 5, Name: "five", Seq: 5}, {Id: 6, Name: "six", Last: api.Verdict{Code: -1, Commits: make([]api.Commit, 100)}},
	}
	x := loads(t, "any", len(l), l, api.OK)
	has(t, "any", x, l)
	asks(t, x, 0, 0, bad(), true)
	asks(t, x, math.MaxInt, 0, bad(), true)
	asks(t, x, math.MaxInt, 1, nothing(), false)
	asks(t, x, 5, 5, nothing(), true)
	asks(t, x, math.MinInt, math.MaxInt, nothing(), true)
	does(t, x, math.MinInt, math.MaxInt, whole(), false)
	opens(t, x, "", 9, 0)
}

// R7: a nil table, and one that no call made, answers zero values, and takes nothing.
func TestNotMade(t *testing.T) {
	for _, x := range []*session.Table{nil, {}, new(session.Table)} {
		for range 2 {
			opens(t, x, "a", 1, 0)
			opens(t, x, "", 0, 0)
			misses(t, x, 1)
			misses(t, x, 0)
			asks(t, x, 1, 1, nothing(), false)
			asks(t, x, 0, 0, nothing(), false)
			does(t, x, 1, 1, landed(1), false)
			does(t, x, 0, 1, landed(1), false)
			if len(x.All()) != 0 || x.Clone() != nil {
				t.Errorf("a table that no call made: %v, %v", x.All(), x.Clone())
			}
		}
	}
}
