package image_test

import (
	"bytes"
	"math"
	"slices"
	"strings"
	"testing"

	"wapentake/api"
	"wapentake/image"
	"wapentake/machine"
)

// news is a new machine.
func news(t *testing.T, alpha, size int, members ...int) *machine.Machine {
	t.Helper()
	m, e := machine.New(members, alpha, size)
	if e != api.OK {
		t.Fatalf("New %v %d %d: %v", members, alpha, size, e)
	}
	return m
}

// join is bytes one behind the other.
func join(l ...[]byte) []byte { return slices.Concat(l...) }

// put and gone are changes.
func put(p string, digest uint64) api.Change { return api.Change{Path: p, Digest: digest} }
func gone(p string) api.Change               { return api.Change{Path: p, Gone: true} }

// asks is a request of a session.
func asks(kind, session, seq int) api.Request {
	return api.Request{Kind: kind, Session: session, Seq: seq}
}

// opens is a request for a session.
func opens(name string) api.Request { return api.Request{Kind: api.Open, Name: name} }

// lands is a request to land.
func lands(session, seq, base int, ref string, l ...api.Change) api.Request {
	r := asks(api.Land, session, seq)
	r.Base, r.Ref, r.Changes = base, ref, l
	return r
}

// members is a request to add or to drop one.
func members(kind, session, seq, member int) api.Request {
	r := asks(kind, session, seq)
	r.Member = member
	return r
}

// savesAs holds that Save of m are just these bytes.
func savesAs(t *testing.T, what string, m *machine.Machine, want ...[]byte) {
	t.Helper()
	if got := saves(t, m); !bytes.Equal(got, join(want...)) {
		t.Errorf("Save, %s: %v, want %v", what, got, join(want...))
	}
}

// savesNone holds that Save of m are no bytes.
func savesNone(t *testing.T, what string, m *machine.Machine) {
	t.Helper()
	if got := image.Save(m); len(got) != 0 {
		t.Errorf("Save, %s: %s, want none", what, brief(got))
	}
	if m != nil {
		saves(t, m)
	}
}

// P10.1: Save of what is no machine, and of new ones.
func TestSaveNew(t *testing.T) {
	savesNone(t, "nil", nil)
	if got := image.Save(&machine.Machine{}); !bytes.Equal(got, make([]byte, 6)) {
		t.Errorf("Save of a machine that no call made: %v, want a 0 for each that it tells", got)
	}
	savesAs(t, "the example", news(t, 1, 4, 0, 1, 2), []byte{1, 4, 0, 1, 0, 3, 0, 1, 2, 0, 0})
	savesAs(t, "the least", news(t, 1, 1, 0), []byte{1, 1, 0, 1, 0, 1, 0, 0, 0})
	savesAs(t, "all members", news(t, 8, 16, 0, 1, 2, 3, 4, 5, 6, 7, 8, 9, 10, 11, 12, 13, 14), []byte{8, 16, 0, 1, 0, 15, 0, 1, 2, 3, 4, 5, 6, 7, 8, 9, 10, 11, 12, 13, 14, 0, 0})
}

// P10.1: Save, byte by byte, as requests of each Kind are applied: epochs pending and cut, sessions used and gone, commits with what is gone.
func TestSaveKinds(t *testing.T) {
	m := news(t, 2, 2, 0, 1, 2)
	three := []byte{1, 0, 3, 0, 1, 2}
	four := []byte{0, 3, 0, 1, 2, 7, 4, 0, 1, 2, 3}
	main := []byte{1, 0, 4, 'm', 'a', 'i', 'n', 2, 1, 'a', 0, 0, 0, 0, 0, 0, 0, 1, 44, 1, 'b', 1}
	m.Apply(opens("anna"))
	anna := []byte{4, 'a', 'n', 'n', 'a'}
	savesAs(t, "Open", m, []byte{2, 2, 1}, three, []byte{1, 1, 0}, anna, []byte{0, 0})
	m.Apply(lands(1, 1, 0, "main", gone("b"), put("a", 300)))
	savesAs(t, "Land", m, []byte{2, 2, 2}, three, []byte{1, 1, 1}, anna, []byte{2, 1}, main)
	m.Apply(asks(api.Head, 1, 2))
	savesAs(t, "Head", m, []byte{2, 2, 3}, three, []byte{1, 1, 2}, anna, []byte{8, 1}, main)
	m.Apply(opens("b"))
	savesAs(t, "a second Open", m, []byte{2, 2, 4}, three, []byte{2, 1, 2}, anna, []byte{8, 1, 4, 0, 1, 'b', 0}, main)
	r := asks(api.Read, 4, 1)
	r.Path = "a"
	m.Apply(r)
	found := []byte{9, 1, 'a', 0, 0, 0, 0, 0, 0, 1, 44, 1}
	savesAs(t, "Read", m, []byte{2, 2, 5}, three, []byte{2, 1, 2}, anna, []byte{8, 1, 4, 1, 1, 'b'}, found, main)
	m.Apply(members(api.Add, 1, 200, 3))
	savesAs(t, "Add, pending", m, []byte{2, 2, 6, 2}, four, []byte{2, 4, 1, 1, 'b'}, found, []byte{1, 200, 1}, anna, []byte{12, 3}, main)
	m.Apply(members(api.Drop, 4, 2, 0))
	savesAs(t, "Drop, refused; Add, cut", m, []byte{2, 2, 7, 1}, four[5:], []byte{2, 1, 200, 1}, anna, []byte{12, 3, 4, 2, 1, 'b', 14, 0}, main)
	m.Apply(members(api.Drop, 4, 3, 0))
	pending := []byte{7, 4, 0, 1, 2, 3, 9, 3, 1, 2, 3}
	savesAs(t, "Drop, pending", m, []byte{2, 2, 8, 2}, pending, []byte{2, 1, 200, 1}, anna, []byte{12, 3, 4, 3, 1, 'b', 13, 0}, main)
	m.Apply(api.Request{})
	savesAs(t, "Noop; Drop, cut", m, []byte{2, 2, 9, 1}, pending[6:], []byte{2, 1, 200, 1}, anna, []byte{12, 3, 4, 3, 1, 'b', 13, 0}, main)
	m.Apply(opens("c"))
	savesAs(t, "a third Open: one leaves", m, []byte{2, 2, 10, 1}, pending[6:], []byte{2, 4, 3, 1, 'b', 13, 0, 10, 0, 1, 'c', 0}, main)
	r = asks(api.Log, 4, 4)
	r.From, r.Many = 1, 9
	m.Apply(r)
	log := join([]byte{11, 1, 1}, main[1:])
	savesAs(t, "Log", m, []byte{2, 2, 11, 1}, pending[6:], []byte{2, 10, 0, 1, 'c', 0, 4, 4, 1, 'b'}, log, main)
	m.Apply(opens("c"))
	m.Apply(lands(10, 1, 1, "", gone("a"), put("c/d", 1<<63)))
	next := []byte{2, 0, 4, 'm', 'a', 'i', 'n', 2, 1, 'a', 0, 0, 0, 0, 0, 0, 0, 1, 44, 1, 'b', 1, 1, 0, 2, 1, 'a', 1, 3, 'c', '/', 'd', 0, 128, 0, 0, 0, 0, 0, 0, 0}
	savesAs(t, "a second Land", m, []byte{2, 2, 13, 1}, pending[6:], []byte{2, 4, 4, 1, 'b'}, log, []byte{10, 1, 1, 'c', 2, 2}, next)
	m.Apply(asks(99, 10, 2))
	savesAs(t, "a Kind that is none", m, []byte{2, 2, 14, 1}, pending[6:], []byte{2, 4, 4, 1, 'b'}, log, []byte{10, 2, 1, 'c', 5}, next)
}

// lasts is a verdict of each Code.
func lasts() []api.Verdict {
	commits := []api.Commit{{Rev: 300, Base: 200, Ref: "main", Changes: []api.Change{put("a", 1<<40), gone("b")}}, {}, {Rev: api.MaxNumber, Base: api.MaxNumber}}
	return []api.Verdict{
		{}, {Code: api.Opened, Session: 300}, {Code: api.Landed, Rev: 127}, {Code: api.Conflict, Path: "a/b", Rev: 128},
		{Code: api.Ahead, Rev: api.MaxNumber}, {Code: api.Bad}, {Code: api.Expired}, {Code: api.Stale}, {Code: api.HeadIs},
		{Code: api.Found, Path: "a", Digest: math.MaxUint64, Rev: 9}, {Code: api.Missing, Path: strings.Repeat("x", 255)},
		{Code: api.LogIs, Commits: commits}, {Code: api.Added, Member: 14}, {Code: api.Dropped, Member: 1}, {Code: api.Refused, Member: api.MaxNumber},
	}
}

// rich is parts of which each is there, with numbers of one byte and of more.
func rich() parts {
	p := parts{alpha: 8, size: api.MaxSessions, applied: 1000}
	p.epochs = []api.Epoch{{From: 995, Members: []int{0, 1, 5}}, {From: 1001, Members: []int{5}}, {From: api.MaxNumber, Members: []int{0, 14}}}
	for i, v := range lasts() {
		p.sessions = append(p.sessions, api.Session{Id: 130 - i, Seq: 120 + i, Name: strings.Repeat("n", i), Last: v})
	}
	p.commits = []api.Commit{
		{Rev: 1, Ref: "main", Changes: []api.Change{put("a", 5), gone("b"), put("c/d", 1<<63)}},
		{Rev: 2, Base: 1, Changes: []api.Change{gone("a")}},
		{Rev: 3, Base: 2, Ref: strings.Repeat("r", api.MaxPart), Changes: []api.Change{put("a", 0)}},
	}
	for i := range 130 {
		p.commits = append(p.commits, api.Commit{Rev: i + 4, Base: i + 3, Changes: []api.Change{put("a", uint64(i))}})
	}
	return p
}

// P10.1: a verdict of each Code as Last, alone and all of them in one machine.
func TestSaveLasts(t *testing.T) {
	if len(lasts()) != api.Codes {
		t.Fatalf("%d verdicts of %d Codes", len(lasts()), api.Codes)
	}
	for code, v := range lasts() {
		if v.Code != code {
			t.Fatalf("the verdict %d has the Code %d", code, v.Code)
		}
		p := parts{1, 1, 0, []api.Epoch{{Members: []int{0}}}, []api.Session{{Id: 1, Seq: 1, Name: "a", Last: v}}, nil}
		takes(t, "a Last", saves(t, p.makes(t))...)
	}
	b := saves(t, rich().makes(t))
	if !bytes.Equal(b, rich().row().bytes()) {
		t.Errorf("a machine that was made of parts has others")
	}
	takes(t, "all that there may be", b...)
}

// P10.1: as many Sessions as there may be, in the order of their use, and one more, for which one leaves.
func TestSaveFull(t *testing.T) {
	m := news(t, 1, api.MaxSessions, 3)
	for i := range api.MaxSessions {
		m.Apply(opens(string(rune('a' + i))))
		takes(t, "some Sessions", saves(t, m)...)
	}
	m.Apply(asks(api.Head, 1, 1))
	want := []byte{1, 16, 17, 1, 0, 1, 3, 16}
	for i := 1; i < api.MaxSessions; i++ {
		want = append(want, byte(i+1), 0, 1, byte('a'+i), 0)
	}
	savesAs(t, "all Sessions", m, want, []byte{1, 1, 1, 'a', 8, 0, 0})
	m.Apply(opens("q"))
	want[2] = 18
	want = slices.Delete(want, 8, 13)
	savesAs(t, "all Sessions, and one left", m, want, []byte{1, 1, 1, 'a', 8, 0, 18, 0, 1, 'q', 0, 0})
	takes(t, "all Sessions, and one left", saves(t, m)...)
}

// P10.1: where a part may not be written, there are no bytes.
func TestSaveFails(t *testing.T) {
	l := []api.Epoch{{Members: []int{0}}}
	good := api.Session{Id: 1, Seq: 1, Name: "a"}
	with := func(change func(s *api.Session)) api.Session {
		s := good
		change(&s)
		return s
	}
	last := func(v api.Verdict) api.Session { return with(func(s *api.Session) { s.Last = v }) }
	many := make([]api.Change, 65)
	for what, wrong := range map[string]api.Session{
		"a negative Id":             with(func(s *api.Session) { s.Id = -1 }),
		"an Id above MaxNumber":     with(func(s *api.Session) { s.Id = api.MaxNumber + 1 }),
		"a Seq above MaxNumber":     with(func(s *api.Session) { s.Seq = api.MaxNumber + 1 }),
		"a Name above MaxBody":      with(func(s *api.Session) { s.Name = strings.Repeat("a", api.MaxBody+1) }),
		"a negative Code":           last(api.Verdict{Code: -1}),
		"a Code that is none":       last(api.Verdict{Code: api.Codes}),
		"a field that is not its":   last(api.Verdict{Code: api.Bad, Rev: 1}),
		"a negative Rev":            last(api.Verdict{Code: api.Landed, Rev: -1}),
		"a long Path":               last(api.Verdict{Code: api.Missing, Path: strings.Repeat("a", 256)}),
		"too many Commits":          last(api.Verdict{Code: api.LogIs, Commits: make([]api.Commit, api.MaxLog+1)}),
		"too many Changes":          last(api.Verdict{Code: api.LogIs, Commits: []api.Commit{{Changes: many}}}),
		"what is gone has a digest": last(api.Verdict{Code: api.LogIs, Commits: []api.Commit{{Changes: []api.Change{{Gone: true, Digest: 1}}}}}),
	} {
		p := parts{1, 3, 0, l, []api.Session{wrong}, nil}
		savesNone(t, what, p.makes(t))
		p.sessions = []api.Session{{Id: 2, Name: "b"}, wrong, {Id: 3, Name: "c"}}
		p.commits = rich().commits
		savesNone(t, what+", among others", p.makes(t))
	}
	p := parts{1, 3, 0, l, []api.Session{good}, nil}
	savesAs(t, "nothing wrong", p.makes(t), []byte{1, 3, 0, 1, 0, 1, 0, 1, 1, 1, 1, 'a', 0, 0})
}

// P10.1: requests that may not be make such parts, too, until their session leaves or does another one.
func TestSaveFailsOfRequests(t *testing.T) {
	for _, r := range []api.Request{asks(api.Head, 1, api.MaxNumber+1), asks(api.Head, 1, math.MaxInt), members(api.Add, 1, 5, -1), members(api.Drop, 1, 5, api.MaxNumber+1)} {
		m := news(t, 1, 1, 0)
		m.Apply(opens("a"))
		m.Apply(r)
		savesNone(t, brief(r), m)
		m.Apply(api.Request{})
		savesNone(t, brief(r)+", and more", m)
		m.Apply(opens("b"))
		savesAs(t, "the session left", m, []byte{1, 1, 4, 1, 0, 1, 0, 1, 4, 0, 1, 'b', 0, 0})
	}
	m := news(t, 1, 1, 0)
	m.Apply(opens("a"))
	m.Apply(members(api.Add, 1, 5, -1))
	savesNone(t, "a negative Member", m)
	m.Apply(asks(api.Head, 1, api.MaxNumber))
	savesAs(t, "the session did another one", m, []byte{1, 1, 3, 1, 0, 1, 0, 1, 1}, plainNumber(api.MaxNumber), []byte{1, 'a', 8, 0, 0})
}

// P10.1: what Load refuses has bytes nevertheless, if the writer takes it.
func TestSaveMoreThanLoads(t *testing.T) {
	p := parts{1, 1, 0, nil, []api.Session{{Id: 1, Name: strings.Repeat("a", api.MaxPart+1)}}, nil}
	for i := range api.MaxReplicas + 1 {
		p.epochs = append(p.epochs, api.Epoch{From: i, Members: []int{0}})
	}
	fails(t, "a long Name", api.ErrLong, saves(t, p.makes(t))...)
	p.sessions[0].Name = strings.Repeat("a", api.MaxBody)
	fails(t, "a Name of MaxBody", api.ErrLong, saves(t, p.makes(t))...)
	p.sessions = nil
	takes(t, "MaxReplicas + 1 Epochs", saves(t, p.makes(t))...)
	p.epochs = append(p.epochs, api.Epoch{From: 100, Members: []int{0}})
	fails(t, "one more", api.ErrForm, saves(t, p.makes(t))...)
}
