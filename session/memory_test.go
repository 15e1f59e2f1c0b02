package session_test

import (
	"fmt"
	"slices"
	"testing"
	"unsafe"

	"wapentake/api"
	"wapentake/session"
)

// spoilt and the next ones are what the tests write over memory that should be nobody else's.
func spoilt() api.Change       { return api.Change{Path: "spoilt", Gone: true, Digest: 99} }
func spoiltCommit() api.Commit { return api.Commit{Rev: 99, Base: 99, Ref: "spoilt"} }
func spoiltOne() api.Session   { return api.Session{Id: 99, Seq: 99, Name: "spoilt"} }

// roomy is a list of what l has, with more of it in its spare room.
func roomy[T any](l []T, more T) []T {
	return append(append(make([]T, 0, len(l)+3), l...), slices.Repeat([]T{more}, 3)...)[:len(l)]
}

// spoil writes over a list, its spare room too.
func spoil[T any](l []T, with T) {
	for i := range l[:cap(l)] {
		l[:cap(l)][i] = with
	}
}

// roomyVerdict is whole, with spare room behind each list of it.
func roomyVerdict() api.Verdict {
	v := whole()
	v.Commits = roomy(v.Commits, spoiltCommit())
	for i := range v.Commits {
		v.Commits[i].Changes = roomy(v.Commits[i].Changes, spoilt())
	}
	return v
}

// spoilVerdict writes over the lists of a verdict, spare room too.
func spoilVerdict(v api.Verdict) {
	for _, c := range v.Commits {
		spoil(c.Changes, spoilt())
	}
	spoil(v.Commits, spoiltCommit())
}

// spoilAll writes over sessions and the lists in them, spare room too.
func spoilAll(l []api.Session) {
	for _, s := range l {
		spoilVerdict(s.Last)
	}
	spoil(l, spoiltOne())
}

// untouched holds a verdict that roomyVerdict told against what it was, spare room too.
func untouched(t *testing.T, what string, v api.Verdict) {
	t.Helper()
	was := roomyVerdict()
	if fmt.Sprint(v) != fmt.Sprint(was) {
		t.Errorf("%s: %s, was %s", what, brief(v), brief(was))
	}
	room := v.Commits[len(v.Commits):cap(v.Commits)]
	if fmt.Sprint(room) != fmt.Sprint(slices.Repeat([]api.Commit{spoiltCommit()}, 3)) {
		t.Errorf("%s wrote into the spare room of commits: %v", what, room)
	}
	for _, c := range v.Commits {
		if room := c.Changes[len(c.Changes):cap(c.Changes)]; !slices.Equal(room, slices.Repeat([]api.Change{spoilt()}, 3)) {
			t.Errorf("%s wrote into the spare room of changes: %v", what, room)
		}
	}
}

// R4: the lists of the verdict that Done is given stay as they were, whatever it tells, and are not kept.
func TestDoneLeavesItsLists(t *testing.T) {
	for _, id := range []int{1, 2, 3, 4} {
		for _, seq := range []int{0, 4, 5} {
			x, v := three(t, 3), roomyVerdict()
			x.Done(id, seq, v)
			untouched(t, "Done", v)
			was := plainly(x.All())
			spoilVerdict(v)
			has(t, "a table whose Done's verdict was written over", x, was)
		}
	}
}

// R4: Load's list stays as it was, lists in it and spare room too, and is not kept.
func TestLoadLeavesItsList(t *testing.T) {
	for _, wrong := range []bool{false, true} {
		l := roomy(abc(), spoiltOne())
		for i := range l {
			l[i].Last = roomyVerdict()
		}
		if wrong {
			l[2].Seq = -1
		}
		want := plainly(l)
		x, e := session.Load(3, l)
		if (e != api.OK) != wrong {
			t.Fatalf("Load: %v", e)
		}
		for i, s := range l {
			untouched(t, "Load", s.Last)
			if s.Id != want[i].Id || s.Seq != want[i].Seq || s.Name != want[i].Name {
				t.Errorf("Load changed its list: %+v", s)
			}
		}
		if room := l[len(l):cap(l)]; fmt.Sprint(room) != fmt.Sprint(slices.Repeat([]api.Session{spoiltOne()}, 3)) {
			t.Errorf("Load wrote into the spare room: %v", room)
		}
		if wrong {
			continue
		}
		opens(t, x, "d", 4, 4)
		asks(t, x, 2, 9, nothing(), false)
		if room := l[:cap(l)][3]; room.Name != "spoilt" || l[0].Name != "a" {
			t.Errorf("a table writes into the list of its Load: %v", l[:cap(l)])
		}
		was := plainly(x.All())
		spoilAll(l)
		has(t, "a table whose Load's list was written over", x, was)
	}
}

// R4: what a table tells is new memory, spare room too: who writes over it changes neither the table, nor its clones, nor what was told.
func TestToldIsNew(t *testing.T) {
	x := three(t, 4)
	does(t, x, 1, 1, api.Verdict{Commits: []api.Commit{}}, true)
	y := x.Clone()
	z := loads(t, "All", 4, x.All(), api.OK)
	was := plainly(x.All())
	told, found, all := mustAsk(t, y.Clone(), 2, 4), mustFind(t, x, 2), x.All()
	for _, w := range []*session.Table{x, y, z} {
		spoilAll(w.All())
		spoilVerdict(mustFind(t, w, 2).Last)
		spoilVerdict(mustAsk(t, w.Clone(), 2, 4))
		spoilVerdict(mustAsk(t, w.Clone(), 1, 1))
	}
	has(t, "a table whose answers were written over", x, was)
	has(t, "its clone", y, was)
	has(t, "what was loaded of it", z, was)
	asks(t, x, 2, 4, whole(), true)
	spoilVerdict(mustAsk(t, x, 2, 4))
	asks(t, x, 2, 4, whole(), true)
	if a, b, c := fmt.Sprint(told), fmt.Sprint(found.Last), fmt.Sprint(all[1].Last); a != b || a != c || a != fmt.Sprint(whole()) {
		t.Errorf("answers were written over: %s, %s, %s", a, b, c)
	}
	// What is told stays, too, when the table goes on.
	does(t, x, 2, 9, landed(1), true)
	opens(t, x, "e", 7, 7)
	opens(t, x, "f", 8, 8)
	if got := plainly(all); fmt.Sprint(got) != fmt.Sprint(was) {
		t.Errorf("what was told changed: %v, was %v", got, was)
	}
}

// mustAsk is the verdict that there is.
func mustAsk(t *testing.T, x *session.Table, id, seq int) api.Verdict {
	t.Helper()
	v, ok := x.Ask(id, seq)
	if !ok {
		t.Fatalf("Ask %d %d: nothing", id, seq)
	}
	return v
}

// mustFind is the session that there is.
func mustFind(t *testing.T, x *session.Table, id int) api.Session {
	t.Helper()
	s, ok := x.Find(id)
	if !ok {
		t.Fatalf("Find %d: none", id)
	}
	return s
}

// R4: no two lists of one answer share memory, also where one verdict was handed in for many sessions, and one list stood in it twice.
func TestListsApart(t *testing.T) {
	shared := []api.Change{{Path: "a", Digest: 1}, {Path: "b", Digest: 2}, {Path: "c", Digest: 3}}
	v := api.Verdict{Code: api.LogIs, Commits: []api.Commit{{Rev: 1, Changes: shared}, {Rev: 2, Changes: shared[:2]}, {Rev: 3, Changes: shared[1:]}}}
	x := empty(t, 5)
	for i, name := range letters(5) {
		opens(t, x, string(name), i, i)
		does(t, x, i, 1, v, true)
	}
	loaded := loads(t, "one verdict for all", 5, x.All(), api.OK)
	want := plainly(x.All())
	for _, w := range []*session.Table{x, x.Clone(), loaded} {
		l := w.All()
		for i := range l {
			for k := range l[i].Last.Commits {
				c := &l[i].Last.Commits[k]
				if !slices.Equal(c.Changes, want[i].Last.Commits[k].Changes) {
					t.Fatalf("who wrote over other changes changed those of commit %d of session %d: %v", k, i, c.Changes)
				}
				spoil(append(c.Changes, spoilt()), spoilt())
				spoil(c.Changes, spoilt())
			}
			spoil(append(l[i].Last.Commits, spoiltCommit()), spoiltCommit())
			spoil(l[i].Last.Commits, spoiltCommit())
		}
		has(t, "a table whose answers were written over", w, want)
	}
}

// R4: nor does a table keep the texts, or tell pieces of them.
func TestTextsAreCopied(t *testing.T) {
	text := []byte("aaa/bbb/main/c/ddd")
	piece := func(from, to int) string { return unsafe.String(&text[from], to-from) }
	v := api.Verdict{Path: piece(0, 3), Commits: []api.Commit{{Ref: piece(8, 12), Changes: []api.Change{{Path: piece(13, 14)}}}}}
	want := api.Verdict{Path: "aaa", Commits: []api.Commit{{Ref: "main", Changes: []api.Change{{Path: "c"}}}}}
	x := empty(t, 2)
	opens(t, x, piece(4, 7), 5, 5)
	does(t, x, 5, 1, v, true)
	loaded := loads(t, "pieces", 2, []api.Session{{Id: 5, Seq: 1, Name: piece(4, 7), Last: v}}, api.OK)
	copy(text, "qqqqqqqqqqqqqqqqqq")
	for _, w := range []*session.Table{x, loaded} {
		has(t, "a table whose texts were written over", w, []api.Session{{Id: 5, Seq: 1, Name: "bbb", Last: want}})
		asks(t, w, 5, 1, want, true)
		opens(t, w, "bbb", 9, 5)
	}
}
