package machine_test

import (
	"fmt"
	"math"
	"reflect"
	"slices"
	"strings"
	"testing"

	"wapentake/api"
	"wapentake/machine"
)

// nothing and the next ones are verdicts, with the fields that they need and no others.
func nothing() api.Verdict           { return api.Verdict{} }
func bad() api.Verdict               { return api.Verdict{Code: api.Bad} }
func expired() api.Verdict           { return api.Verdict{Code: api.Expired} }
func stale() api.Verdict             { return api.Verdict{Code: api.Stale} }
func opened(id int) api.Verdict      { return api.Verdict{Code: api.Opened, Session: id} }
func landed(rev int) api.Verdict     { return api.Verdict{Code: api.Landed, Rev: rev} }
func ahead(rev int) api.Verdict      { return api.Verdict{Code: api.Ahead, Rev: rev} }
func headIs(rev int) api.Verdict     { return api.Verdict{Code: api.HeadIs, Rev: rev} }
func missing(p string) api.Verdict   { return api.Verdict{Code: api.Missing, Path: p} }
func added(member int) api.Verdict   { return api.Verdict{Code: api.Added, Member: member} }
func dropped(id int) api.Verdict     { return api.Verdict{Code: api.Dropped, Member: id} }
func refused(member int) api.Verdict { return api.Verdict{Code: api.Refused, Member: member} }

func conflict(p string, rev int) api.Verdict {
	return api.Verdict{Code: api.Conflict, Path: p, Rev: rev}
}

func found(p string, digest uint64, rev int) api.Verdict {
	return api.Verdict{Code: api.Found, Path: p, Digest: digest, Rev: rev}
}

func logIs(l ...api.Commit) api.Verdict { return api.Verdict{Code: api.LogIs, Commits: l} }

// noop and the next ones are requests, with the fields that they need and no others.
func noop() api.Request            { return api.Request{} }
func open(name string) api.Request { return api.Request{Kind: api.Open, Name: name} }

func land(session, seq, base int, ref string, l ...api.Change) api.Request {
	return api.Request{Kind: api.Land, Session: session, Seq: seq, Base: base, Ref: ref, Changes: l}
}

func head(session, seq int) api.Request {
	return api.Request{Kind: api.Head, Session: session, Seq: seq}
}

func read(session, seq int, p string) api.Request {
	return api.Request{Kind: api.Read, Session: session, Seq: seq, Path: p}
}

func log(session, seq, from, many int) api.Request {
	return api.Request{Kind: api.Log, Session: session, Seq: seq, From: from, Many: many}
}

func add(session, seq, member int) api.Request {
	return api.Request{Kind: api.Add, Session: session, Seq: seq, Member: member}
}

func drop(session, seq, member int) api.Request {
	return api.Request{Kind: api.Drop, Session: session, Seq: seq, Member: member}
}

// put and gone are changes.
func put(p string, digest uint64) api.Change { return api.Change{Path: p, Digest: digest} }
func gone(p string) api.Change               { return api.Change{Path: p, Gone: true} }

// commit is a commit.
func commit(rev, base int, ref string, l ...api.Change) api.Commit {
	return api.Commit{Rev: rev, Base: base, Ref: ref, Changes: l}
}

// ids is a list of numbers.
func ids(l ...int) []int { return l }

// from is an epoch.
func from(slot int, members ...int) api.Epoch { return api.Epoch{From: slot, Members: members} }

// brief is x as a text that can be read, however much x has.
func brief(x any) string { return fmt.Sprintf("%.900s", fmt.Sprintf("%+v", x)) }

// plainCommits is the commits in new memory, with each empty list as nil, since they are one.
func plainCommits(l []api.Commit) []api.Commit {
	var out []api.Commit
	for _, c := range l {
		c.Changes = append([]api.Change(nil), c.Changes...)
		out = append(out, c)
	}
	return out
}

// plainVerdict is v in new memory, with each empty list as nil.
func plainVerdict(v api.Verdict) api.Verdict {
	v.Commits = plainCommits(v.Commits)
	return v
}

// plainSessions is the sessions in new memory, with each empty list as nil.
func plainSessions(l []api.Session) []api.Session {
	var out []api.Session
	for _, s := range l {
		s.Last = plainVerdict(s.Last)
		out = append(out, s)
	}
	return out
}

// plainEpochs is the epochs in new memory, with each empty list as nil.
func plainEpochs(l []api.Epoch) []api.Epoch {
	var out []api.Epoch
	for _, e := range l {
		e.Members = append([]int(nil), e.Members...)
		out = append(out, e)
	}
	return out
}

// state is all that a machine tells of itself, in memory of its own.
type state struct {
	applied, alpha, size, head int
	union                      []int
	epochs                     []api.Epoch
	sessions                   []api.Session
	commits                    []api.Commit
}

// tell is what m tells.
func tell(m *machine.Machine) state {
	return state{
		m.Applied(), m.Alpha(), m.Size(), m.Head(), append([]int(nil), m.Union()...),
		plainEpochs(m.Epochs()), plainSessions(m.Sessions()), plainCommits(m.Commits()),
	}
}

// stays holds what m tells against a state.
func stays(t *testing.T, what string, m *machine.Machine, want state) {
	t.Helper()
	if got := tell(m); !reflect.DeepEqual(got, want) {
		t.Errorf("%s: %s, want %s", what, brief(got), brief(want))
	}
}

// is holds a verdict against another one, all fields.
func is(t *testing.T, what string, got, want api.Verdict) {
	t.Helper()
	if got, want = plainVerdict(got), plainVerdict(want); !reflect.DeepEqual(got, want) {
		t.Errorf("%s: %s, want %s", what, brief(got), brief(want))
	}
}

// applies holds what Apply tells against a verdict, and that Applied is one more then.
func applies(t *testing.T, m *machine.Machine, r api.Request, want api.Verdict) {
	t.Helper()
	slot := m.Applied()
	is(t, fmt.Sprint("Apply ", brief(r)), m.Apply(r), want)
	if got := m.Applied(); got != slot+1 {
		t.Errorf("Applied behind %s: %d, want %d", brief(r), got, slot+1)
	}
}

// peeks holds what Peek tells against a verdict, and that it changes nothing.
func peeks(t *testing.T, m *machine.Machine, r api.Request, want api.Verdict) {
	t.Helper()
	was := tell(m)
	is(t, fmt.Sprint("Peek ", brief(r)), m.Peek(r), want)
	stays(t, "a machine behind a Peek", m, was)
}

// at holds the members of a slot against a list.
func at(t *testing.T, m *machine.Machine, slot int, want ...int) {
	t.Helper()
	if got := m.At(slot); !slices.Equal(got, want) {
		t.Errorf("At %d: %v, want %v, of %v", slot, got, want, m.Epochs())
	}
}

// epochsAre holds the epochs of m against a list.
func epochsAre(t *testing.T, m *machine.Machine, want ...api.Epoch) {
	t.Helper()
	if got := plainEpochs(m.Epochs()); !reflect.DeepEqual(got, plainEpochs(want)) {
		t.Errorf("Epochs at %d: %v, want %v", m.Applied(), got, want)
	}
}

// order is the Names of the sessions, the one used longest ago first.
func order(m *machine.Machine) string {
	var l []string
	for _, s := range m.Sessions() {
		l = append(l, s.Name)
	}
	return strings.Join(l, " ")
}

// orders holds the Names of the sessions against a text.
func orders(t *testing.T, m *machine.Machine, want string) {
	t.Helper()
	if got := order(m); got != want {
		t.Errorf("the order of use: %q, want %q", got, want)
	}
}

// last holds the Seq and the Last of the session with that Id.
func last(t *testing.T, m *machine.Machine, id, seq int, v api.Verdict) {
	t.Helper()
	for _, s := range m.Sessions() {
		if s.Id == id {
			if s.Seq != seq {
				t.Errorf("the Seq of session %d: %d, want %d", id, s.Seq, seq)
			}
			is(t, fmt.Sprint("the Last of session ", id), s.Last, v)
			return
		}
	}
	t.Errorf("there is no session %d", id)
}

// news makes a machine, or holds what New refuses it with against an error.
func news(t *testing.T, members []int, alpha, sessions int, want api.Errno) *machine.Machine {
	t.Helper()
	m, e := machine.New(members, alpha, sessions)
	if e != want || (m != nil) != (want == api.OK) {
		t.Fatalf("New %v %d %d: %v, %v, want %v", members, alpha, sessions, m, e, want)
	}
	return m
}

// some is a machine with the members 0 1 2, alpha 2, room for three sessions, and the session 1 of anna.
func some(t *testing.T) *machine.Machine {
	t.Helper()
	m := news(t, ids(0, 1, 2), 2, 3, api.OK)
	applies(t, m, open("anna"), opened(1))
	return m
}

// The chapter's examples.
func TestExamples(t *testing.T) {
	m := news(t, ids(0, 1, 2), 1, 4, api.OK)
	applies(t, m, open("c"), opened(1))
	applies(t, m, land(1, 1, 0, "", put("a", 5)), landed(1))
	applies(t, m, land(1, 1, 0, "", put("a", 5)), landed(1))
	peeks(t, m, api.Request{Kind: api.Head}, headIs(1))
	applies(t, m, land(9, 1, 0, "", put("a", 5)), expired())
}

// P8.1: a new machine has the members, alpha and size that it was given, an empty graph, no sessions, Applied 0.
func TestNew(t *testing.T) {
	for _, members := range [][]int{{0}, {14}, {0, 1, 2}, {3, 7, 14}, {0, 1, 2, 3, 4, 5, 6, 7, 8, 9, 10, 11, 12, 13, 14}} {
		for _, alpha := range []int{1, 2, api.MaxAlpha} {
			for _, size := range []int{1, 5, api.MaxSessions} {
				m := news(t, members, alpha, size, api.OK)
				stays(t, "New", m, state{alpha: alpha, size: size, union: members, epochs: []api.Epoch{from(0, members...)}})
				for _, slot := range []int{math.MinInt, -1, 0, 1, math.MaxInt} {
					at(t, m, slot, members...)
				}
				peeks(t, m, api.Request{Kind: api.Head}, headIs(0))
				peeks(t, m, api.Request{Kind: api.Log, From: 1, Many: 9}, logIs())
			}
		}
	}
}

// P8.1: New takes the alpha and the number of sessions that it is given, and not one for the other.
func TestNewTakesEachForItself(t *testing.T) {
	m := news(t, ids(0), api.MaxAlpha, 1, api.OK)
	applies(t, m, open("a"), opened(1))
	applies(t, m, open("b"), opened(2))
	orders(t, m, "b")
	applies(t, m, add(2, 1, 1), added(1))
	epochsAre(t, m, from(0, 0), from(2+api.MaxAlpha, 0, 1))
	news(t, ids(0), api.MaxAlpha, api.MaxSessions, api.OK)
	news(t, ids(0), api.MaxAlpha+1, api.MaxSessions, api.ErrArg)
}

// wrongMembers and the next ones are what may not be.
func wrongMembers() [][]int {
	return [][]int{nil, {}, {-1}, {0, 15}, {0, 0}, {1, 0}, {math.MaxInt}, {math.MinInt}, make([]int, 16), make([]int, 100000)}
}
func wrongAlphas() []int {
	return []int{0, -1, api.MaxAlpha + 1, math.MinInt, math.MaxInt, 1<<32 + 1}
}
func wrongSizes() []int {
	return []int{0, -1, api.MaxSessions + 1, math.MinInt, math.MaxInt, 1<<32 + 1}
}

// P8.1: epoch.New's error, session.New's: each alone and all together.
func TestNewRefuses(t *testing.T) {
	for _, alpha := range append(wrongAlphas(), 1) {
		for _, size := range append(wrongSizes(), 1) {
			for _, members := range append(wrongMembers(), ids(0)) {
				if want := api.ErrArg; alpha != 1 || size != 1 || !slices.Equal(members, ids(0)) {
					news(t, members, alpha, size, want)
				}
			}
		}
	}
	news(t, ids(0), 1, 1, api.OK)
}

// P8.2: a Noop does nothing but that the slot is applied, whatever else it has.
func TestNoop(t *testing.T) {
	m := some(t)
	want := tell(m)
	for i, r := range []api.Request{{}, {Name: "bert"}, {Session: 1, Seq: 1}, land(1, 1, 0, "", put("a", 1)), {Session: 9, Member: 2}} {
		r.Kind = api.Noop
		applies(t, m, r, nothing())
		want.applied = i + 2
		stays(t, "a Noop", m, want)
	}
}

// P8.2: Open of a name makes a session whose Id is the slot and one, also behind slots that opened none.
func TestOpen(t *testing.T) {
	m := news(t, ids(0), 1, api.MaxSessions, api.OK)
	applies(t, m, open("a"), opened(1))
	applies(t, m, open("b"), opened(2))
	applies(t, m, noop(), nothing())
	applies(t, m, open(""), bad())
	applies(t, m, head(9, 9), expired())
	applies(t, m, open("c"), opened(6))
	applies(t, m, head(1, 1), headIs(0))
	for _, name := range []string{"0", "z", "_", "-", "a-b_9", strings.Repeat("x", api.MaxPart)} {
		id := m.Applied() + 1
		applies(t, m, open(name), opened(id))
		last(t, m, id, 0, nothing())
	}
	orders(t, m, "b c a 0 z _ - a-b_9 "+strings.Repeat("x", api.MaxPart))
}

// P8.2: Open's Session and Seq are not asked, nor its other fields.
func TestOpenAsksNothing(t *testing.T) {
	m := some(t)
	r := land(77, -1, 0, "", put("a", 1))
	r.Kind, r.Name = api.Open, "bert"
	applies(t, m, r, opened(2))
	r.Session, r.Seq, r.Name = 1, 1, "carl"
	applies(t, m, r, opened(3))
	orders(t, m, "anna bert carl")
	last(t, m, 1, 0, nothing())
	applies(t, m, head(1, 1), headIs(0))
}

// P8.2: Open of what is no path.Name is Bad, and opens nothing.
func TestOpenBad(t *testing.T) {
	m := some(t)
	want := tell(m)
	for _, name := range []string{"", "A", "a.b", ".", "a/b", "a b", " a", "a\x00", "\xff", "é", strings.Repeat("x", api.MaxPart+1), strings.Repeat("x", 1<<16)} {
		applies(t, m, open(name), bad())
		want.applied++
		stays(t, "a bad Open", m, want)
	}
}

// P8.2: Open of a name that has a session is that session, as it is, used last.
func TestOpenAgain(t *testing.T) {
	m := some(t)
	applies(t, m, open("bert"), opened(2))
	applies(t, m, open("carl"), opened(3))
	applies(t, m, land(1, 4, 0, "", put("a", 1)), landed(1))
	orders(t, m, "bert carl anna")
	applies(t, m, open("bert"), opened(2))
	orders(t, m, "carl anna bert")
	applies(t, m, open("anna"), opened(1))
	orders(t, m, "carl bert anna")
	last(t, m, 1, 4, landed(1))
	applies(t, m, head(1, 3), stale())
}

// P8.2: in a full table the one used longest ago leaves, and is Expired; its name makes a new one.
func TestOpenFull(t *testing.T) {
	m := some(t)
	applies(t, m, open("bert"), opened(2))
	applies(t, m, open("carl"), opened(3))
	applies(t, m, head(1, 1), headIs(0))
	applies(t, m, open("dora"), opened(5))
	orders(t, m, "carl anna dora")
	applies(t, m, head(2, 1), expired())
	applies(t, m, open("bert"), opened(7))
	orders(t, m, "anna dora bert")
	applies(t, m, head(3, 1), expired())
	applies(t, m, head(7, 1), headIs(0))
	last(t, m, 1, 1, headIs(0))
}

// P8.2: the one that has the Id of a new session leaves for it, be it full or not.
func TestOpenTakesId(t *testing.T) {
	s := []api.Session{{Id: 4, Name: "a"}, {Id: 8, Name: "b", Seq: 3, Last: landed(9)}}
	for _, size := range []int{2, 3} {
		m := makes(t, 1, size, 7, []api.Epoch{from(0, 0)}, s, nil, api.OK)
		applies(t, m, open("c"), opened(8))
		orders(t, m, "a c")
		last(t, m, 8, 0, nothing())
	}
}

// all is a request of each Kind that is asked in a session, and of some Kinds that there are not.
func all(session, seq int) []api.Request {
	l := []api.Request{
		land(session, seq, 0, "main", put("a", 1)), land(session, seq, -1, ""), head(session, seq), read(session, seq, "a"), read(session, seq, ""), log(session, seq, 1, 9), log(session, seq, 0, 0),
		add(session, seq, 3), add(session, seq, -1), drop(session, seq, 0), drop(session, seq, 9),
	}
	for _, kind := range wrongKinds() {
		l = append(l, api.Request{Kind: kind, Session: session, Seq: seq, Name: "zoe", Changes: []api.Change{put("a", 1)}})
	}
	return l
}

// wrongKinds is Kinds that there are not.
func wrongKinds() []int {
	return []int{-1, api.Kinds, api.Kinds + 1, 99, math.MinInt, math.MaxInt, 1 << 32}
}

// P8.2: of a Session that is not there each request is Expired, and nothing is done.
func TestExpired(t *testing.T) {
	m := some(t)
	want := tell(m)
	for _, id := range []int{0, 2, -1, 99, math.MinInt, math.MaxInt} {
		for _, seq := range []int{1, 0, -1, math.MaxInt} {
			for _, r := range all(id, seq) {
				applies(t, m, r, expired())
				want.applied++
				stays(t, "an expired request", m, want)
			}
		}
	}
}

// P8.2: a Seq below 1 is Bad, one below the last is Stale, the last one is told again; nothing is done, but each is a use.
func TestAskedTold(t *testing.T) {
	m := some(t)
	applies(t, m, land(1, 5, 0, "", put("a", 1)), landed(1))
	applies(t, m, open("bert"), opened(3))
	for seq, v := range map[int]api.Verdict{0: bad(), -1: bad(), math.MinInt: bad(), 1: stale(), 4: stale(), 5: landed(1)} {
		for _, r := range all(1, seq) {
			applies(t, m, head(3, 1), headIs(1))
			want := tell(m)
			applies(t, m, r, v)
			want.applied++
			slices.Reverse(want.sessions)
			stays(t, "a request that was told", m, want)
		}
	}
	applies(t, m, head(1, 6), headIs(1))
	applies(t, m, head(1, math.MaxInt), headIs(1))
	applies(t, m, head(1, math.MaxInt-1), stale())
	last(t, m, 1, math.MaxInt, headIs(1))
}

// P8.2: what is told again is the whole verdict, also when it would be another one now.
func TestToldAgain(t *testing.T) {
	one, two := commit(1, 0, "", put("a", 1)), commit(2, 0, "x", put("b", 3), put("c", 2))
	m := some(t)
	applies(t, m, open("bert"), opened(2))
	again := func(r api.Request, v api.Verdict) {
		t.Helper()
		for range 3 {
			applies(t, m, r, v)
			last(t, m, 1, r.Seq, v)
		}
	}
	again(head(1, 1), headIs(0))
	again(read(1, 2, "a"), missing("a"))
	again(log(1, 3, 1, 9), logIs())
	again(land(1, 4, 0, "", put("a", 1)), landed(1))
	again(land(1, 5, 0, "", put("a", 1)), conflict("a", 1))
	again(read(1, 6, "a"), found("a", 1, 1))
	applies(t, m, land(2, 1, 0, "x", put("c", 2), put("b", 3)), landed(2))
	again(log(1, 7, 1, 9), logIs(one, two))
	// Another session goes on between.
	applies(t, m, land(2, 2, 2, "", gone("a")), landed(3))
	again(log(1, 7, 1, 9), logIs(one, two))
	again(log(1, 8, 2, 9), logIs(two, commit(3, 2, "", gone("a"))))
}

// manyPuts is changes of so many paths.
func manyPuts(n int) []api.Change {
	var l []api.Change
	for i := range n {
		l = append(l, put(fmt.Sprint("m", i), 1))
	}
	return l
}

// lands is what is landed by the Seqs 1, 2 and so on of the session 1, in each way that there is, and what becomes of it.
func lands() []row {
	l := []row{
		{land(1, 0, 0, "", put("b", 2), put("a", 1)), landed(1)}, {land(1, 0, 1, "main", gone("a")), landed(2)}, {land(1, 0, 0, "old", put("c", 3)), landed(3)},
		{land(1, 0, 1, "", put("b", 5), put("a", 4)), conflict("a", 2)}, {land(1, 0, 0, "", put("z", 1), put("b", 1)), conflict("b", 1)},
		{land(1, 0, 4, "", put("a", 1)), ahead(3)}, {land(1, 0, math.MaxInt, "", put("a", 1)), ahead(3)},
		{land(1, 0, -1, "", put("d", 1)), bad()}, {land(1, 0, math.MinInt, "", put("d", 1)), bad()},
		{land(1, 0, 0, "Main", put("d", 1)), bad()}, {land(1, 0, 0, "a/b", put("d", 1)), bad()},
		{land(1, 0, 0, ""), bad()}, {land(1, 0, 0, "", manyPuts(api.MaxChanges+1)...), bad()}, {land(1, 0, 0, "", put("d/", 1)), bad()}, {land(1, 0, 0, "", put("d", 1), put("d", 1)), bad()},
		{land(1, 0, 0, "", api.Change{Path: "d", Gone: true, Digest: 1}), bad()}, {land(1, 0, 3, "", manyPuts(api.MaxChanges)...), landed(4)},
	}
	for i := range l {
		l[i].r.Seq = i + 1
	}
	return l
}

// P8.2: Land takes the request's Base, Ref and Changes, and is refused in each way of graph.Land, which is then what the session has done; asked again, it makes no further commit.
func TestLand(t *testing.T) {
	m := some(t)
	for i, x := range lands() {
		want := m.Head()
		if x.v.Code == api.Landed {
			want++
		}
		for range 3 {
			applies(t, m, x.r, x.v)
			last(t, m, 1, i+1, x.v)
			if m.Head() != want || len(m.Commits()) != want {
				t.Errorf("the head behind %s: %d, want %d", brief(x.r), m.Head(), want)
			}
		}
	}
	l := m.Commits()
	want := []api.Commit{commit(1, 0, "", put("a", 1), put("b", 2)), commit(2, 1, "main", gone("a")), commit(3, 0, "old", put("c", 3))}
	if !reflect.DeepEqual(plainCommits(l[:3]), want) || len(l) != 4 || len(l[3].Changes) != api.MaxChanges {
		t.Errorf("Commits: %s", brief(l))
	}
}

// three is a machine with three commits and the session 1 of anna, who landed them by 1 to 3.
func three(t *testing.T) *machine.Machine {
	t.Helper()
	m := some(t)
	applies(t, m, land(1, 1, 0, "", put("b", 2), put("a", 1)), landed(1))
	applies(t, m, land(1, 2, 1, "main", gone("a")), landed(2))
	applies(t, m, land(1, 3, 1, "", put("b/c", 3)), landed(3))
	return m
}

// row is a request, and what becomes of it.
type row struct {
	r api.Request
	v api.Verdict
}

// looks is requests that only look, and what they are told of what three makes.
func looks() []row {
	one, two, three := commit(1, 0, "", put("a", 1), put("b", 2)), commit(2, 1, "main", gone("a")), commit(3, 1, "", put("b/c", 3))
	return []row{
		{head(0, 0), headIs(3)},
		{read(0, 0, "b"), found("b", 2, 1)}, {read(0, 0, "b/c"), found("b/c", 3, 3)}, {read(0, 0, "a"), missing("a")}, {read(0, 0, "zz"), missing("zz")},
		{read(0, 0, ""), bad()}, {read(0, 0, "b/"), bad()}, {read(0, 0, "B"), bad()}, {read(0, 0, strings.Repeat("x", api.MaxPart+1)), bad()},
		{log(0, 0, 1, 9), logIs(one, two, three)}, {log(0, 0, 2, 1), logIs(two)}, {log(0, 0, 3, math.MaxInt), logIs(three)}, {log(0, 0, 4, 1), logIs()}, {log(0, 0, math.MaxInt, math.MaxInt), logIs()},
		{log(0, 0, 0, 1), bad()}, {log(0, 0, 1, 0), bad()}, {log(0, 0, -1, -1), bad()}, {log(0, 0, math.MinInt, math.MinInt), bad()},
	}
}

// P8.2: Head, Read and Log in a session tell, and are what it has done; they change nothing else.
func TestLooksInSession(t *testing.T) {
	for _, x := range looks() {
		m := three(t)
		want := tell(m)
		x.r.Session, x.r.Seq = 1, 4
		applies(t, m, x.r, x.v)
		want.applied++
		want.sessions[0].Seq, want.sessions[0].Last = 4, plainVerdict(x.v)
		stays(t, "a look", m, want)
	}
}

// P8.2: Log tells MaxLog commits at most, each time it is told.
func TestLongLog(t *testing.T) {
	m := some(t)
	for i := range api.MaxLog + 3 {
		applies(t, m, land(1, i+1, 0, "", put(fmt.Sprint("p", i), uint64(i))), landed(i+1))
	}
	for range 2 {
		if v := m.Apply(log(1, 99, 2, 999)); v.Code != api.LogIs || len(v.Commits) != api.MaxLog || v.Commits[0].Rev != 2 {
			t.Errorf("a long Log: %s", brief(v))
		}
	}
	if v := m.Peek(log(0, 0, 1, 999)); len(v.Commits) != api.MaxLog {
		t.Errorf("a long Log by Peek: %s", brief(v))
	}
}

// P8.2: a Kind that there is not is Bad in a session, which has done it then.
func TestWrongKind(t *testing.T) {
	m := three(t)
	want := tell(m)
	for i, kind := range wrongKinds() {
		r := land(1, 4+i, 3, "main", put("d", 1))
		r.Kind, r.Name, r.Path, r.From, r.Many, r.Member = kind, "bert", "b", 1, 1, 5
		applies(t, m, r, bad())
		want.applied++
		want.sessions[0].Seq, want.sessions[0].Last = 4+i, bad()
		stays(t, "a Kind that there is not", m, want)
		applies(t, m, head(1, 4+i), bad())
		want.applied++
	}
}

// P8.2: Add and Drop are done at the slot, count alpha slots later, and the epochs are cut at what is applied last of all.
func TestMembers(t *testing.T) {
	m := some(t)
	applies(t, m, add(1, 1, 5), added(5)) // at the slot 1
	epochsAre(t, m, from(0, 0, 1, 2), from(3, 0, 1, 2, 5))
	at(t, m, 2, 0, 1, 2)
	at(t, m, 3, 0, 1, 2, 5)
	applies(t, m, drop(1, 2, 0), refused(0)) // at 2: one is pending, and counts from what is applied then on
	epochsAre(t, m, from(3, 0, 1, 2, 5))
	at(t, m, 2, 0, 1, 2, 5)
	applies(t, m, drop(1, 3, 0), dropped(0)) // at 3
	epochsAre(t, m, from(3, 0, 1, 2, 5), from(5, 1, 2, 5))
	if got := m.Union(); !slices.Equal(got, ids(0, 1, 2, 5)) {
		t.Errorf("Union: %v", got)
	}
	applies(t, m, noop(), nothing())
	epochsAre(t, m, from(5, 1, 2, 5))
	if got := m.Union(); !slices.Equal(got, ids(1, 2, 5)) {
		t.Errorf("Union: %v", got)
	}
	applies(t, m, drop(1, 3, 1), dropped(0)) // told again, not done
	applies(t, m, drop(1, 4, 0), refused(0))
	epochsAre(t, m, from(5, 1, 2, 5))
	last(t, m, 1, 4, refused(0))
}

// P8.2: the epochs are cut behind each request, whatever becomes of it.
func TestCutBehindEach(t *testing.T) {
	for i, r := range append(all(1, 2), append(all(9, 9), append(all(1, 0), noop(), open("bert"), open("B"))...)...) {
		m := news(t, ids(0, 1, 2), 1, 3, api.OK)
		applies(t, m, open("anna"), opened(1))
		applies(t, m, add(1, 1, 5), added(5)) // the slot 1: they are members from 2 on
		epochsAre(t, m, from(2, 0, 1, 2, 5))
		m = makes(t, 8, 3, 2, []api.Epoch{from(0, 0), from(2, 1), from(3, 2, 3)}, m.Sessions(), m.Commits(), api.OK)
		epochsAre(t, m, from(2, 1), from(3, 2, 3))
		m.Apply(r)
		if l := m.Epochs(); l[0].From != 3 || m.Applied() != 3 {
			t.Errorf("the epochs behind %d %s: %v", i, brief(r), l)
		}
	}
}

// P8.2: Add and Drop are refused in each way of epoch.Change, with the Member, whatever it is.
func TestMembersRefused(t *testing.T) {
	for _, id := range []int{-1, api.MaxReplicas, math.MinInt, math.MaxInt, 1 << 32} {
		m := some(t)
		want := tell(m)
		applies(t, m, add(1, 1, id), refused(id))
		applies(t, m, drop(1, 2, id), refused(id))
		want.applied += 2
		want.sessions[0].Seq, want.sessions[0].Last = 2, refused(id)
		stays(t, "a Member that may not be", m, want)
	}
	m := some(t)
	applies(t, m, add(1, 1, 1), refused(1))
	applies(t, m, drop(1, 2, 3), refused(3))
	epochsAre(t, m, from(0, 0, 1, 2))
	one := makes(t, 1, 1, 0, []api.Epoch{from(0, 4)}, []api.Session{{Id: 1, Name: "anna"}}, nil, api.OK)
	applies(t, one, drop(1, 1, 4), refused(4))
	applies(t, one, add(1, 2, 14), added(14))
	applies(t, one, drop(1, 3, 4), dropped(4))
	epochsAre(t, one, from(3, 14))
	applies(t, one, drop(1, 4, 14), refused(14))
	pending := makes(t, 1, 1, 5, []api.Epoch{from(0, 4), from(9, 4, 5)}, []api.Session{{Id: 1, Name: "anna"}}, nil, api.OK)
	for seq := 1; seq < 5; seq++ {
		applies(t, pending, add(1, seq, 6), refused(6))
	}
	applies(t, pending, add(1, 5, 6), added(6))
}

// P8.2: each alpha counts.
func TestAlphas(t *testing.T) {
	for alpha := 1; alpha <= api.MaxAlpha; alpha++ {
		m := news(t, ids(3), alpha, 1, api.OK)
		applies(t, m, open("anna"), opened(1))
		applies(t, m, add(1, 1, 2), added(2))
		for slot := 2; slot <= alpha; slot++ {
			epochsAre(t, m, from(0, 3), from(1+alpha, 2, 3))
			applies(t, m, add(1, slot, 4), refused(4))
		}
		epochsAre(t, m, from(1+alpha, 2, 3))
		applies(t, m, add(1, 99, 4), added(4))
	}
}

// P8.2: at MaxNumber Apply does nothing: Bad; up to it all is well.
func TestEnd(t *testing.T) {
	for alpha := 1; alpha <= api.MaxAlpha; alpha++ {
		m := makes(t, alpha, 2, api.MaxNumber-alpha-1, []api.Epoch{from(0, 0)}, []api.Session{{Id: 1, Name: "anna"}}, nil, api.OK)
		applies(t, m, add(1, 1, 1), added(1)) // it counts at MaxNumber - 1
		for range alpha - 1 {
			applies(t, m, noop(), nothing())
		}
		applies(t, m, open("bert"), opened(api.MaxNumber))
		ends(t, m)
	}
	m := makes(t, 2, 2, api.MaxNumber-2, []api.Epoch{from(0, 0)}, []api.Session{{Id: 1, Name: "anna"}}, nil, api.OK)
	applies(t, m, add(1, 1, 1), added(1)) // it counts at MaxNumber
	applies(t, m, add(1, 2, 2), refused(2))
	epochsAre(t, m, from(api.MaxNumber, 0, 1))
	ends(t, m)
	m = makes(t, 2, 2, api.MaxNumber-1, []api.Epoch{from(0, 0)}, []api.Session{{Id: 1, Name: "anna"}}, nil, api.OK)
	applies(t, m, add(1, 1, 1), refused(1)) // it would count behind MaxNumber
	ends(t, m)
}

// ends holds that m, which is at MaxNumber, does nothing more: what is asked is Bad.
func ends(t *testing.T, m *machine.Machine) {
	t.Helper()
	was := tell(m)
	if was.applied != api.MaxNumber {
		t.Errorf("Applied: %d, want MaxNumber", was.applied)
	}
	for _, r := range append(all(1, 99), noop(), open("carl"), open("anna"), head(1, 0), head(1, 1), head(7, 1)) {
		for range 2 {
			is(t, "Apply at MaxNumber", m.Apply(r), bad())
			stays(t, "a machine at MaxNumber", m, was)
		}
		// What Apply would say, Peek does.
		peeks(t, m, r, bad())
	}
	stays(t, "a clone at MaxNumber", m.Clone(), was)
}

// P8.3: Peek of Head, Read and Log is what Apply would say, whatever Session and Seq they have, also one that has done it, or none.
func TestPeek(t *testing.T) {
	for _, x := range looks() {
		m := three(t)
		for _, id := range []int{0, 1, 2, -1, math.MaxInt} {
			for _, seq := range []int{0, -1, 1, 3, 4, math.MaxInt} {
				x.r.Session, x.r.Seq = id, seq
				peeks(t, m, x.r, x.v)
			}
		}
		applies(t, m, head(1, 4), headIs(3))
		x.r.Session, x.r.Seq = 1, 5
		applies(t, m, x.r, x.v)
	}
}

// P8.3: Peek of all other Kinds is Bad, and does nothing.
func TestPeekBad(t *testing.T) {
	m := three(t)
	for _, kind := range append(wrongKinds(), api.Noop, api.Open, api.Land, api.Add, api.Drop) {
		for _, id := range []int{0, 1, 9} {
			for _, seq := range []int{0, 3, 4} {
				r := land(id, seq, 3, "main", put("d", 1))
				r.Kind, r.Name, r.Path, r.From, r.Many, r.Member = kind, "bert", "b", 1, 1, 5
				peeks(t, m, r, bad())
			}
		}
	}
}

// P8.3: Peek is no use of a session: the one used longest ago stays that one.
func TestPeekIsNoUse(t *testing.T) {
	m := some(t)
	applies(t, m, open("bert"), opened(2))
	applies(t, m, open("carl"), opened(3))
	applies(t, m, add(3, 1, 4), added(4))
	for _, r := range append(all(1, 1), open("anna"), open("dora")) {
		m.Peek(r)
		orders(t, m, "anna bert carl")
	}
	applies(t, m, open("dora"), opened(5))
	orders(t, m, "bert carl dora")
	applies(t, m, head(1, 1), expired())
}
