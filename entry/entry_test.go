package entry_test

import (
	"math"
	"slices"
	"strings"
	"testing"

	"wapentake/api"
	"wapentake/entry"
)

// long is a text of n bytes, none of them alike to the one beside it.
func long(n int) string {
	return strings.Repeat("a\x00\xff/é", n)[:n]
}

// changes is a list of n Changes that may be.
func changes(n int) []api.Change {
	var l []api.Change
	for i := range n {
		c := api.Change{Path: long(i * 5 % 256), Gone: i%3 == 1}
		if !c.Gone {
			c.Digest = uint64(i) << (i % 60)
		}
		l = append(l, c)
	}
	return l
}

// commits is a list of n Commits that may be.
func commits(n int) []api.Commit {
	var l []api.Commit
	for i := range n {
		l = append(l, api.Commit{Rev: i * 300, Base: i, Ref: long(i * 9 % 256), Changes: changes(i * 7 % 65)})
	}
	return l
}

// put is changes(n) with c in the place i.
func put(n, i int, c api.Change) []api.Change {
	l := changes(n)
	l[i] = c
	return l
}

// landing is commits(n) with c in the place i.
func landing(n, i int, c api.Commit) []api.Commit {
	l := commits(n)
	l[i] = c
	return l
}

// someChanges is lists of Changes at their limits and one beyond, ahead of others and behind them.
func someChanges() [][]api.Change {
	l := [][]api.Change{nil, {}, changes(1), changes(2), changes(63), changes(64), changes(65), changes(200), make([]api.Change, 64), make([]api.Change, 65)}
	for _, c := range []api.Change{
		{}, {Digest: 1}, {Digest: math.MaxUint64}, {Gone: true}, {Path: "a", Gone: true},
		{Gone: true, Digest: 1}, {Path: "a", Gone: true, Digest: math.MaxUint64}, {Path: "a", Gone: true, Digest: 1 << 63},
		{Path: long(254)}, {Path: long(255)}, {Path: long(256)}, {Path: long(255), Gone: true}, {Path: long(256), Gone: true},
		{Path: long(127)}, {Path: long(128), Digest: 9}, {Path: long(api.MaxBody + 1)},
	} {
		l = append(l, []api.Change{c}, put(3, 0, c), put(3, 1, c), put(64, 63, c))
	}
	return l
}

// someCommits is lists of Commits at their limits and one beyond, ahead of others and behind them.
func someCommits() [][]api.Commit {
	l := [][]api.Commit{nil, {}, commits(1), commits(2), commits(31), commits(api.MaxLog), commits(api.MaxLog + 1), make([]api.Commit, api.MaxLog), make([]api.Commit, api.MaxLog+1), make([]api.Commit, 500)}
	var some []api.Commit
	for _, n := range someNumbers() {
		some = append(some, api.Commit{Rev: n.(int), Base: 1}, api.Commit{Rev: 1, Base: n.(int)})
	}
	for _, s := range someTexts() {
		some = append(some, api.Commit{Rev: 2, Ref: s.(string)})
	}
	for _, c := range someChanges() {
		some = append(some, api.Commit{Rev: 3, Changes: c})
	}
	for _, c := range some {
		l = append(l, []api.Commit{c}, landing(3, 1, c), landing(4, 3, c))
	}
	return l
}

// someNumbers is numbers at the limits and one beyond, and at the edges of their bytes.
func someNumbers() []any {
	return []any{0, 1, 127, 128, 300, 16383, 16384, api.MaxNumber - 1, api.MaxNumber, api.MaxNumber + 1, -1, math.MinInt, math.MaxInt}
}

// someTexts is texts at the limits and one beyond.
func someTexts() []any {
	return []any{"", "a", "\x00", "\xff\xfe", "é", long(127), long(128), long(254), long(255), long(256), long(300), long(api.MaxBody), long(api.MaxBody + 1)}
}

// some is values for a field, at its limits and beyond.
func some(t *testing.T, x any, name string) []any {
	var l []any
	switch field(x, name).Interface().(type) {
	case int:
		return someNumbers()
	case string:
		return someTexts()
	case uint64:
		return []any{uint64(0), uint64(1), uint64(1 << 63), uint64(math.MaxUint64)}
	case []api.Change:
		for _, c := range someChanges() {
			l = append(l, c)
		}
	case []api.Commit:
		for _, c := range someCommits() {
			l = append(l, c)
		}
	default:
		t.Fatalf("the field %s", name)
	}
	return l
}

// noop and the next ones are the chapter's requests.
func noop() api.Request            { return api.Request{} }
func open(name string) api.Request { return api.Request{Kind: api.Open, Name: name} }
func head(session, seq int) api.Request {
	return api.Request{Kind: api.Head, Session: session, Seq: seq}
}

// The chapter's examples.
func TestExamples(t *testing.T) {
	for _, c := range []struct {
		r    api.Request
		want []byte
	}{
		{noop(), []byte{0}},
		{open("c"), []byte{1, 1, 99}},
		{head(1, 2), []byte{3, 1, 2}},
	} {
		if b, e := entry.Encode(c.r); e != api.OK || !slices.Equal(b, c.want) {
			t.Errorf("Encode(%s): %v, %v; want %v", brief(c.r), b, e, c.want)
		}
	}
	requests().fails(t, api.ErrShort)
	requests().fails(t, api.ErrForm, 8)
}

// P9.1: the bytes of one of each Kind, written out.
func TestRequestBytes(t *testing.T) {
	digest := uint64(0x0102030405060708)
	for _, c := range []struct {
		r    api.Request
		want []byte
	}{
		{api.Request{Kind: api.Noop}, []byte{0}},
		{api.Request{Kind: api.Open}, []byte{1, 0}},
		{api.Request{Kind: api.Open, Name: "ab"}, []byte{1, 2, 97, 98}},
		{api.Request{Kind: api.Land}, []byte{2, 0, 0, 0, 0, 0}},
		{api.Request{Kind: api.Land, Session: 1, Seq: 2, Base: 300, Ref: "m", Changes: []api.Change{{Path: "a", Digest: digest}, {Path: "b", Gone: true}, {}}},
			[]byte{2, 1, 2, 172, 2, 1, 109, 3, 1, 97, 0, 1, 2, 3, 4, 5, 6, 7, 8, 1, 98, 1, 0, 0, 0, 0, 0, 0, 0, 0, 0, 0}},
		{api.Request{Kind: api.Head, Session: 4, Seq: 5}, []byte{3, 4, 5}},
		{api.Request{Kind: api.Read, Session: 4, Seq: 5, Path: "p"}, []byte{4, 4, 5, 1, 112}},
		{api.Request{Kind: api.Log, Session: 4, Seq: 5, From: 6, Many: 7}, []byte{5, 4, 5, 6, 7}},
		{api.Request{Kind: api.Add, Session: 4, Seq: 5, Member: 6}, []byte{6, 4, 5, 6}},
		{api.Request{Kind: api.Drop, Session: 4, Seq: 5, Member: api.MaxNumber}, []byte{7, 4, 5, 128, 128, 128, 128, 128, 32}},
	} {
		b, e := entry.Encode(c.r)
		if e != api.OK || entry.Check(c.r) != api.OK || !slices.Equal(b, c.want) {
			t.Errorf("Encode(%s): %v, %v; want %v", brief(c.r), b, e, c.want)
		}
		back, e := entry.Decode(c.want)
		if e != api.OK {
			t.Errorf("Decode(%v): %v", c.want, e)
		}
		is(t, "Decode", back, c.r)
	}
}

// P9.1: the bytes of one of each Code, written out.
func TestVerdictBytes(t *testing.T) {
	digest := uint64(0xf102030405060708)
	for _, c := range []struct {
		v    api.Verdict
		want []byte
	}{
		{api.Verdict{Code: api.Nothing}, []byte{0}},
		{api.Verdict{Code: api.Opened, Session: 300}, []byte{1, 172, 2}},
		{api.Verdict{Code: api.Landed, Rev: 1}, []byte{2, 1}},
		{api.Verdict{Code: api.Conflict, Path: "ab", Rev: 2}, []byte{3, 2, 97, 98, 2}},
		{api.Verdict{Code: api.Ahead, Rev: 3}, []byte{4, 3}},
		{api.Verdict{Code: api.Bad}, []byte{5}},
		{api.Verdict{Code: api.Expired}, []byte{6}},
		{api.Verdict{Code: api.Stale}, []byte{7}},
		{api.Verdict{Code: api.HeadIs, Rev: api.MaxNumber}, []byte{8, 128, 128, 128, 128, 128, 32}},
		{api.Verdict{Code: api.Found, Path: "a", Digest: digest, Rev: 5}, []byte{9, 1, 97, 241, 2, 3, 4, 5, 6, 7, 8, 5}},
		{api.Verdict{Code: api.Missing, Path: "a"}, []byte{10, 1, 97}},
		{api.Verdict{Code: api.LogIs}, []byte{11, 0}},
		{api.Verdict{Code: api.LogIs, Commits: []api.Commit{{Rev: 1, Base: 2, Ref: "r", Changes: []api.Change{{Path: "a", Gone: true}, {Path: "b", Digest: 1}}}, {Rev: 3}}},
			[]byte{11, 2, 1, 2, 1, 114, 2, 1, 97, 1, 1, 98, 0, 0, 0, 0, 0, 0, 0, 0, 1, 3, 0, 0, 0}},
		{api.Verdict{Code: api.Added, Member: 6}, []byte{12, 6}},
		{api.Verdict{Code: api.Dropped, Member: 7}, []byte{13, 7}},
		{api.Verdict{Code: api.Refused, Member: 8}, []byte{14, 8}},
	} {
		b, e := entry.EncodeVerdict(c.v)
		if e != api.OK || !slices.Equal(b, c.want) {
			t.Errorf("EncodeVerdict(%s): %v, %v; want %v", brief(c.v), b, e, c.want)
		}
		back, e := entry.DecodeVerdict(c.want)
		if e != api.OK {
			t.Errorf("DecodeVerdict(%v): %v", c.want, e)
		}
		is(t, "DecodeVerdict", back, c.v)
	}
}

// full is one of a Kind or a Code whose named fields have ordinary values.
func (s side[T]) full(kind int) T {
	x := s.of(kind)
	for i, name := range s.named(kind) {
		switch field(&x, name).Interface().(type) {
		case int:
			x = with(x, name, i+2)
		case string:
			x = with(x, name, name)
		case uint64:
			x = with(x, name, uint64(i+77))
		case []api.Change:
			x = with(x, name, changes(3))
		case []api.Commit:
			x = with(x, name, commits(3))
		}
	}
	return x
}

// eachField holds each field, alone and beside the ones that are named, against the chapter's words: at its limits, beyond them, and where it is not named.
func eachField[T any](t *testing.T, s side[T]) {
	for kind := range s.fields {
		s.encodes(t, s.of(kind))
		s.encodes(t, s.full(kind))
		for _, name := range s.all() {
			x := s.of(kind)
			for _, value := range some(t, &x, name) {
				s.encodes(t, with(x, name, value))
				s.encodes(t, with(s.full(kind), name, value))
			}
		}
		if t.Failed() {
			t.FailNow()
		}
	}
}

// P9.1, P9.3: each field of each Kind and Code.
func TestEachField(t *testing.T) {
	both(t, eachField[api.Request], eachField[api.Verdict])
}

// noSuch holds that a Kind or a Code that is none is refused, whatever else there is.
func noSuch[T any](t *testing.T, s side[T]) {
	for _, kind := range []int{-1, -2, -128, math.MinInt, len(s.fields), len(s.fields) + 1, 127, 128, 256, api.MaxNumber, api.MaxNumber + 1, math.MaxInt} {
		s.encodes(t, s.of(kind))
		for like := range s.fields {
			s.encodes(t, with(s.full(like), s.first, kind))
		}
	}
	if len(s.fields) != map[string]int{"Kind": 8, "Code": 15}[s.first] {
		t.Errorf("%d of %s", len(s.fields), s.first)
	}
}

// P9.1: a Kind or a Code that is none.
func TestNoSuchKind(t *testing.T) {
	both(t, noSuch[api.Request], noSuch[api.Verdict])
}

// P9.1: which requests may not be, written out.
func TestRequestsThatMayNotBe(t *testing.T) {
	for _, r := range []api.Request{
		{Kind: -1},
		{Kind: 8},
		{Name: "a"},
		{Member: 1},
		{Kind: api.Open, Name: long(256)},
		{Kind: api.Open, Name: "a", Seq: 1},
		{Kind: api.Head, Session: -1},
		{Kind: api.Head, Seq: api.MaxNumber + 1},
		{Kind: api.Head, Changes: []api.Change{{}}},
		{Kind: api.Head, Name: "a"},
		{Kind: api.Read, Path: long(256)},
		{Kind: api.Read, Ref: "a"},
		{Kind: api.Log, From: -1},
		{Kind: api.Log, Many: api.MaxNumber + 1},
		{Kind: api.Log, Base: 1},
		{Kind: api.Add, Member: -1},
		{Kind: api.Drop, Member: api.MaxNumber + 1},
		{Kind: api.Drop, From: -1},
		{Kind: api.Land, Base: -1},
		{Kind: api.Land, Ref: long(256)},
		{Kind: api.Land, Path: "a"},
		{Kind: api.Land, Changes: changes(65)},
		{Kind: api.Land, Changes: []api.Change{{Path: long(256)}}},
		{Kind: api.Land, Changes: []api.Change{{}, {Gone: true, Digest: 1}}},
	} {
		if b, e := entry.Encode(r); e != api.ErrArg || len(b) != 0 || entry.Check(r) != api.ErrArg {
			t.Errorf("Encode(%s): %v, %v; Check: %v", brief(r), b, e, entry.Check(r))
		}
	}
}

// P9.1: which verdicts may not be, written out.
func TestVerdictsThatMayNotBe(t *testing.T) {
	for _, v := range []api.Verdict{
		{Code: -1},
		{Code: 15},
		{Session: 1},
		{Code: api.Bad, Rev: 1},
		{Code: api.Expired, Path: "a"},
		{Code: api.Stale, Commits: make([]api.Commit, 1)},
		{Code: api.Opened, Session: -1},
		{Code: api.Opened, Session: 1, Member: 1},
		{Code: api.Landed, Rev: api.MaxNumber + 1},
		{Code: api.Ahead, Rev: -1},
		{Code: api.HeadIs, Session: 1},
		{Code: api.Conflict, Path: long(256)},
		{Code: api.Conflict, Digest: 1},
		{Code: api.Found, Path: long(256)},
		{Code: api.Found, Rev: -1},
		{Code: api.Missing, Path: "a", Rev: 1},
		{Code: api.Missing, Path: "a", Digest: 1},
		{Code: api.LogIs, Commits: make([]api.Commit, api.MaxLog+1)},
		{Code: api.LogIs, Commits: []api.Commit{{Rev: -1}}},
		{Code: api.LogIs, Commits: []api.Commit{{Base: api.MaxNumber + 1}}},
		{Code: api.LogIs, Commits: []api.Commit{{Ref: long(256)}}},
		{Code: api.LogIs, Commits: []api.Commit{{Changes: changes(65)}}},
		{Code: api.LogIs, Commits: []api.Commit{{}, {Changes: []api.Change{{Gone: true, Digest: 1}}}}},
		{Code: api.Added, Member: -1},
		{Code: api.Dropped, Rev: 1},
		{Code: api.Refused, Member: api.MaxNumber + 1},
	} {
		if b, e := entry.EncodeVerdict(v); e != api.ErrArg || len(b) != 0 {
			t.Errorf("EncodeVerdict(%s): %v, %v", brief(v), b, e)
		}
	}
}

// others is values for a field, each unlike the one that it has.
func others(t *testing.T, x any, name string) []any {
	switch y := field(x, name).Interface().(type) {
	case int:
		return []any{y + 1, y - 1, -y - 1, y + 1<<32}
	case string:
		return []any{y + "a", y + "\x00", "b" + y, strings.ToLower(y) + strings.ToUpper(y) + "!"}
	case uint64:
		return []any{y + 1, y ^ 1<<63, ^y}
	case []api.Change:
		var l []any
		for _, c := range otherChanges(y) {
			l = append(l, c)
		}
		return l
	case []api.Commit:
		return otherCommits(y)
	}
	t.Fatalf("the field %s", name)
	return nil
}

// otherChanges is lists of Changes, each unlike l: in how many there are, in their order, in one field of one of them.
func otherChanges(l []api.Change) [][]api.Change {
	all := [][]api.Change{append(slices.Clone(l), api.Change{}), append([]api.Change{{}}, l...), make([]api.Change, len(l)+1)}
	if len(l) > 0 {
		all = append(all, nil, l[1:], l[:len(l)-1])
	}
	if len(l) > 1 {
		all = append(all, append(slices.Clone(l[1:]), l[0]))
	}
	for i, c := range l {
		for _, d := range []api.Change{
			{Path: c.Path + "a", Gone: c.Gone, Digest: c.Digest},
			{Path: c.Path, Gone: !c.Gone, Digest: c.Digest},
			{Path: c.Path, Gone: c.Gone, Digest: c.Digest + 1},
		} {
			m := slices.Clone(l)
			m[i] = d
			all = append(all, m)
		}
	}
	return all
}

// otherCommits is lists of Commits, each unlike l: in how many there are, in their order, in one field of one of them, in one of its Changes.
func otherCommits(l []api.Commit) []any {
	all := []any{append(slices.Clone(l), api.Commit{}), append([]api.Commit{{}}, l...), make([]api.Commit, len(l)+1)}
	if len(l) > 0 {
		all = append(all, []api.Commit(nil), l[1:], l[:len(l)-1])
	}
	if len(l) > 1 {
		all = append(all, append(slices.Clone(l[1:]), l[0]))
	}
	for i, c := range l {
		some := []api.Commit{
			{Rev: c.Rev + 1, Base: c.Base, Ref: c.Ref, Changes: c.Changes},
			{Rev: c.Rev, Base: c.Base - 1, Ref: c.Ref, Changes: c.Changes},
			{Rev: c.Rev, Base: c.Base, Ref: c.Ref + "b", Changes: c.Changes},
		}
		for _, d := range otherChanges(c.Changes) {
			some = append(some, api.Commit{Rev: c.Rev, Base: c.Base, Ref: c.Ref, Changes: d})
		}
		for _, d := range some {
			m := slices.Clone(l)
			m[i] = d
			all = append(all, m)
		}
	}
	return all
}

// sames holds that x is the same as itself, in other memory too, and not as one that is unlike it in one field alone, whether its Kind or Code names it or not.
func sames[T any](t *testing.T, s side[T], x T) {
	if !s.same(x, x) || !s.same(x, deep(x)) || !s.same(deep(x), x) {
		t.Errorf("%s %s is not the same as itself", s.what, brief(x))
	}
	for _, name := range append(s.all(), s.first) {
		for _, value := range others(t, &x, name) {
			if y := with(x, name, value); s.same(x, y) || s.same(y, x) {
				t.Errorf("%s %s and %s are the same", s.what, brief(x), brief(y))
			}
		}
	}
}

// P9.2: Same and Alike.
func TestSame(t *testing.T) {
	both(t, eachSame[api.Request], eachSame[api.Verdict])
}

// eachSame holds sames of each Kind and Code, of such as are none, and of what may not be.
func eachSame[T any](t *testing.T, s side[T]) {
	for kind := range s.fields {
		sames(t, s, s.of(kind))
		sames(t, s, s.full(kind))
		sames(t, s, with(s.full(kind), s.first, kind-1))
		sames(t, s, with(s.full(kind), s.first, 300))
	}
	// All fields at once, though no Kind names them all.
	var x T
	for _, name := range s.all() {
		for _, kind := range []int{0, 1, len(s.fields) - 1} {
			x = with(x, s.first, kind)
			sames(t, s, x)
		}
		l := some(t, &x, name)
		x = with(x, name, l[len(l)/2])
	}
}

// P9.2, R4: nil and an empty list are one.
func TestSameNilAndEmpty(t *testing.T) {
	lists := [][]api.Change{nil, {}, make([]api.Change, 0, 4)}
	for _, a := range lists {
		for _, b := range lists {
			x, y := api.Request{Kind: api.Land, Changes: a}, api.Request{Kind: api.Land, Changes: b}
			v, w := api.Verdict{Commits: []api.Commit{{Changes: a}}}, api.Verdict{Commits: []api.Commit{{Changes: b}}}
			if !entry.Same(x, y) || !entry.Alike(v, w) {
				t.Errorf("an empty list is not as nil")
			}
		}
	}
	if !entry.Alike(api.Verdict{Commits: []api.Commit{}}, api.Verdict{}) || !entry.Alike(api.Verdict{}, api.Verdict{Commits: make([]api.Commit, 0, 3)}) {
		t.Errorf("no Commits are not as nil")
	}
}
