package entry_test

import (
	"bytes"
	"fmt"
	"slices"
	"testing"

	"wapentake/api"
	"wapentake/codec"
	"wapentake/entry"
)

// join is bytes one behind the other.
func join(l ...[]byte) []byte { return slices.Concat(l...) }

// num is a number's bytes.
func num(n int) []byte { return plainNumber(nil, n) }

// text is a text's bytes.
func text(n int) []byte { return plainText(nil, long(n)) }

// P9.1: what is wrong with the bytes of a request.
func TestRequestBytesThatAreWrong(t *testing.T) {
	s := requests()
	land := []byte{2, 1, 1, 1, 0}
	for _, c := range []struct {
		want api.Errno
		b    []byte
	}{
		{api.ErrShort, nil},
		{api.ErrShort, []byte{128}},
		{api.ErrForm, []byte{8}},
		{api.ErrForm, []byte{127}},
		{api.ErrForm, num(128)},
		{api.ErrForm, num(api.MaxNumber)},
		{api.ErrForm, num(api.MaxNumber + 1)},
		{api.ErrForm, []byte{128, 0}},
		{api.ErrForm, []byte{131, 0, 1, 2}},
		{api.ErrForm, []byte{128, 128, 128, 128, 128, 128}},
		{api.ErrLong, []byte{0, 0}},
		{api.ErrLong, []byte{3, 1, 2, 0}},
		{api.ErrLong, []byte{1, 1, 97, 98}},
		{api.ErrShort, []byte{1}},
		{api.ErrShort, []byte{1, 3, 97}},
		{api.ErrLong, join([]byte{1}, text(256))},
		{api.ErrLong, []byte{1, 128, 2}},
		{api.ErrForm, []byte{1, 129, 0, 97}},
		{api.ErrShort, []byte{3, 1}},
		{api.ErrForm, []byte{3, 1, 130, 0}},
		{api.ErrForm, join([]byte{3, 1}, num(api.MaxNumber+1))},
		{api.ErrForm, join([]byte{3}, num(api.MaxNumber+1), []byte{1})},
		{api.ErrLong, join([]byte{4, 1, 1}, text(256))},
		{api.ErrForm, join([]byte{5, 1, 1}, num(api.MaxNumber+1), []byte{1})},
		{api.ErrForm, join([]byte{5, 1, 1, 1}, num(api.MaxNumber+1))},
		{api.ErrForm, join([]byte{6, 1, 1}, num(api.MaxNumber+1))},
		{api.ErrForm, join([]byte{7, 1, 1}, num(api.MaxNumber+1))},
		{api.ErrForm, join([]byte{2, 1, 1}, num(api.MaxNumber+1))},
		{api.ErrLong, join([]byte{2, 1, 1, 1}, text(256), []byte{0})},
		{api.ErrForm, join(land, num(65))},
		{api.ErrForm, join(land, num(api.MaxNumber))},
		{api.ErrShort, join(land, num(64))},
		{api.ErrForm, join(land, []byte{129, 0, 0, 1})},
		{api.ErrLong, join(land, num(1), text(256), []byte{1})},
		{api.ErrForm, join(land, []byte{1, 0, 2})},
		{api.ErrForm, join(land, []byte{1, 0, 255})},
		{api.ErrShort, join(land, []byte{1, 0})},
		{api.ErrShort, join(land, []byte{1, 0, 0, 1, 2, 3, 4, 5, 6, 7})},
		{api.ErrLong, join(land, []byte{1, 0, 1, 0})},
		{api.ErrLong, join(land, []byte{0, 0})},
	} {
		s.fails(t, c.want, c.b...)
	}
}

// P9.1: what is wrong with the bytes of a verdict.
func TestVerdictBytesThatAreWrong(t *testing.T) {
	s := verdicts()
	for _, c := range []struct {
		want api.Errno
		b    []byte
	}{
		{api.ErrShort, nil},
		{api.ErrForm, []byte{15}},
		{api.ErrForm, num(api.MaxNumber)},
		{api.ErrForm, []byte{133, 0}},
		{api.ErrLong, []byte{5, 0}},
		{api.ErrShort, []byte{1}},
		{api.ErrForm, join([]byte{1}, num(api.MaxNumber+1))},
		{api.ErrForm, join([]byte{2}, num(api.MaxNumber+1))},
		{api.ErrLong, []byte{2, 1, 1}},
		{api.ErrLong, join([]byte{3}, text(256), []byte{1})},
		{api.ErrForm, join([]byte{3, 0}, num(api.MaxNumber+1))},
		{api.ErrForm, []byte{4, 128, 0}},
		{api.ErrForm, []byte{8, 128, 0}},
		{api.ErrShort, []byte{9, 1, 97, 0}},
		{api.ErrShort, []byte{9, 1, 97, 0, 0, 0, 0, 0, 0, 0, 0}},
		{api.ErrLong, join([]byte{9}, text(256))},
		{api.ErrForm, []byte{9, 0, 0, 0, 0, 0, 0, 0, 0, 0, 128, 0}},
		{api.ErrLong, join([]byte{10}, text(256))},
		{api.ErrForm, []byte{11, 33}},
		{api.ErrForm, join([]byte{11}, num(api.MaxNumber))},
		{api.ErrShort, []byte{11, 32}},
		{api.ErrForm, []byte{11, 160, 0}},
		{api.ErrForm, join([]byte{11, 1}, num(api.MaxNumber+1))},
		{api.ErrForm, join([]byte{11, 1, 0}, num(api.MaxNumber+1))},
		{api.ErrLong, join([]byte{11, 1, 0, 0}, text(256), []byte{0})},
		{api.ErrForm, []byte{11, 1, 0, 0, 0, 65}},
		{api.ErrForm, []byte{11, 2, 0, 0, 0, 0, 0, 0, 0, 65}},
		{api.ErrForm, []byte{11, 1, 0, 0, 0, 1, 0, 2}},
		{api.ErrLong, join([]byte{11, 1, 0, 0, 0, 1}, text(256), []byte{1})},
		{api.ErrShort, []byte{11, 1, 0, 0, 0}},
		{api.ErrLong, []byte{11, 1, 0, 0, 0, 0, 0}},
		{api.ErrForm, join([]byte{12}, num(api.MaxNumber+1))},
		{api.ErrForm, join([]byte{13}, num(api.MaxNumber+1))},
		{api.ErrForm, join([]byte{14}, num(api.MaxNumber+1))},
	} {
		s.fails(t, c.want, c.b...)
	}
}

// P9.1: of several errors it is the first from the left.
func TestFirstFromTheLeft(t *testing.T) {
	long, form := text(256), []byte{128, 0}
	land, log := []byte{2, 1, 1, 1}, []byte{11, 2, 1, 1}
	for _, c := range []struct {
		want api.Errno
		b    []byte
	}{
		{api.ErrForm, join([]byte{8}, long)},
		{api.ErrForm, join(form, long, []byte{0})},
		{api.ErrForm, join([]byte{3}, form, form)},
		{api.ErrForm, join([]byte{4, 1}, form, long)},
		{api.ErrLong, join([]byte{4, 1, 1}, long, form)},
		{api.ErrLong, join(land, long, num(65))},
		{api.ErrForm, join(land, []byte{0}, num(65), long)},
		{api.ErrLong, join(land, []byte{0, 2}, long, []byte{2})},
		{api.ErrForm, join(land, []byte{0, 2, 0, 2}, long)},
		{api.ErrForm, join(land, []byte{0, 2, 0, 1, 0, 2}, long)},
		{api.ErrLong, join(land, []byte{0, 2, 0, 1}, long, []byte{2})},
		{api.ErrLong, []byte{1, 128, 2, 97}},
		{api.ErrForm, join(land, []byte{0}, num(65), []byte{128})},
	} {
		requests().fails(t, c.want, c.b...)
	}
	for _, c := range []struct {
		want api.Errno
		b    []byte
	}{
		{api.ErrForm, join([]byte{15}, long)},
		{api.ErrLong, join([]byte{3}, long, form)},
		{api.ErrForm, join([]byte{11, 33}, long)},
		{api.ErrForm, join([]byte{11, 2}, form, form, long)},
		{api.ErrLong, join(log, long, num(65))},
		{api.ErrForm, join(log, []byte{0}, num(65), long)},
		{api.ErrLong, join(log, []byte{0, 1}, long, []byte{2}, form)},
		{api.ErrForm, join(log, []byte{0, 1, 0, 2}, form, long)},
		{api.ErrForm, join(log, []byte{0, 0, 1}, form, long)},
		{api.ErrLong, join(log, []byte{0, 0, 1, 1}, long, form)},
	} {
		verdicts().fails(t, c.want, c.b...)
	}
}

// cuts holds that each beginning of good bytes is ErrShort, that bytes behind them are ErrLong, and what each other byte in them makes.
func cuts[T any](t *testing.T, s side[T]) {
	for kind := range s.fields {
		for _, x := range []T{s.of(kind), s.full(kind)} {
			b, _ := s.encode(x)
			s.decodes(t, b)
			for i := range b {
				s.fails(t, api.ErrShort, b[:i]...)
			}
			for _, more := range [][]byte{{0}, {255}, b} {
				s.fails(t, api.ErrLong, join(b, more)...)
			}
			for i := range b {
				for _, c := range []byte{0, 1, 2, 8, 15, 32, 33, 64, 65, 127, 128, 129, 192, 255} {
					other := slices.Clone(b)
					other[i] = c
					s.decodes(t, other)
				}
			}
		}
	}
}

// P9.1, P9.3: beginnings of good bytes, bytes behind them, other bytes in them.
func TestCuts(t *testing.T) {
	both(t, cuts[api.Request], cuts[api.Verdict])
}

// P9.1, P9.3: all rows of up to two bytes, and those of three and four that a few bytes make.
func TestAllShortBytes(t *testing.T) {
	few := []byte{0, 1, 2, 3, 8, 11, 33, 65, 127, 128, 130, 255}
	rows := [][]byte{nil}
	for a := range 256 {
		rows = append(rows, []byte{byte(a)})
		for b := range 256 {
			rows = append(rows, []byte{byte(a), byte(b)})
		}
	}
	for kind := range api.Codes {
		for _, a := range few {
			for _, b := range few {
				rows = append(rows, []byte{byte(kind), a, b})
				for _, c := range few {
					rows = append(rows, []byte{byte(kind), a, b, c})
				}
			}
		}
	}
	for _, b := range rows {
		requests().decodes(t, b)
		verdicts().decodes(t, b)
		if t.Failed() {
			t.FailNow()
		}
	}
}

// P9.1: all numbers of up to three of a few digits, and some of six, in a number's place, of which some are not written the shortest way.
func TestNumbersInBytes(t *testing.T) {
	few := []byte{0, 1, 31, 32, 33, 127, 128, 129, 160, 255}
	rows := [][]byte{nil}
	for i := 0; len(rows[i]) < 3; i++ {
		for _, c := range few {
			rows = append(rows, join(rows[i], []byte{c}))
		}
	}
	for _, last := range few {
		for _, ahead := range few {
			rows = append(rows, []byte{128, 128, 128, 128, ahead, last}, []byte{255, 255, 255, 255, ahead, last}, []byte{128, 129, 255, 128, ahead, last, 0})
		}
	}
	for _, b := range rows {
		requests().decodes(t, join([]byte{3}, b, []byte{1}))
		requests().decodes(t, join([]byte{6, 0, 0}, b))
		requests().decodes(t, join([]byte{2, 0, 0, 0, 0}, b, make([]byte, 12)))
		verdicts().decodes(t, join([]byte{8}, b))
		verdicts().decodes(t, join([]byte{11}, b, make([]byte, 12)))
	}
}

// among holds that put writes among other things, and that take reads there.
func among[T any](t *testing.T, s side[T]) {
	w := codec.NewWriter()
	w.Text("ahead")
	want := plainText(nil, "ahead")
	var l []T
	for kind := range s.fields {
		for _, x := range []T{s.of(kind), s.full(kind)} {
			l = append(l, x)
			s.put(w, x)
			w.Num(kind + 300)
			want = plainNumber(join(want, s.plainBytes(x)), kind+300)
		}
	}
	w.Flag(true)
	want = append(want, 1)
	b, e := w.Done()
	if e != api.OK || !slices.Equal(b, want) {
		t.Errorf("written among others: %v, %v; want %v", brief(b), e, brief(want))
	}
	r := codec.NewReader(b)
	if s := r.Text(5); s != "ahead" {
		t.Errorf("read ahead: %q", s)
	}
	for i, x := range l {
		is(t, "read among others", s.take(r), x)
		if n := r.Num(); n != i/2+300 || r.Fail() != api.OK {
			t.Errorf("read behind %s: %d, %v", brief(x), n, r.Fail())
		}
	}
	if !r.Flag() || r.End() != api.OK {
		t.Errorf("read behind all: %v", r.End())
	}
}

// P9.1: Put, Take, Told, Heard within more bytes.
func TestAmongOthers(t *testing.T) {
	both(t, among[api.Request], among[api.Verdict])
	w := codec.NewWriter()
	entry.Put(w, api.Request{Kind: api.Open, Name: "a"})
	entry.Told(w, api.Verdict{Code: api.Opened, Session: 9})
	entry.Put(w, api.Request{})
	if b, e := w.Done(); e != api.OK || !bytes.Equal(b, []byte{1, 1, 97, 1, 9, 0}) {
		t.Errorf("Put, Told: %v, %v", b, e)
	}
}

// refuses holds that a writer fails by ErrArg at x, which may not be, and writes no more.
func refuses[T any](t *testing.T, s side[T], x T) {
	t.Helper()
	w := codec.NewWriter()
	w.Num(1)
	s.put(w, x)
	for i := range 3 {
		if b, e := w.Done(); e != api.ErrArg || len(b) != 0 {
			t.Errorf("a writer behind %s: %v, %v (%d)", brief(x), brief(b), e, i)
		}
		w.Num(1)
		s.put(w, s.full(1))
		w.Bytes(make([]byte, api.MaxBody+1)) // it would fail by ErrLong, had it not failed yet
		s.put(w, x)
	}
}

// failedWriter holds what becomes of a writer that fails at what may not be, and of one that failed ahead.
func failedWriter[T any](t *testing.T, s side[T]) {
	for kind := range s.fields {
		for _, name := range s.all() {
			x := s.of(kind)
			l := some(t, &x, name)
			for _, i := range []int{1, len(l) - 1} {
				if y := with(s.full(kind), name, l[i]); !s.mayBe(y) {
					refuses(t, s, y)
				}
			}
		}
		refuses(t, s, with(s.full(kind), s.first, -1))
		refuses(t, s, with(s.full(kind), s.first, len(s.fields)))
		for _, x := range []T{s.full(kind), with(s.full(kind), s.first, -1)} {
			w := codec.NewWriter()
			w.Bytes(make([]byte, api.MaxBody+1))
			s.put(w, x)
			if b, e := w.Done(); e != api.ErrLong || len(b) != 0 {
				t.Errorf("a writer that failed ahead of %s: %v, %v", brief(x), brief(b), e)
			}
		}
	}
}

// P9.1: of what may not be the writer fails by ErrArg, unless it has failed.
func TestFailedWriter(t *testing.T) {
	both(t, failedWriter[api.Request], failedWriter[api.Verdict])
	// What is wrong stands behind much that is right.
	wrong := put(9, 8, api.Change{Gone: true, Digest: 1})
	refuses(t, requests(), api.Request{Kind: api.Land, Changes: wrong})
	refuses(t, verdicts(), api.Verdict{Code: api.LogIs, Commits: landing(9, 8, api.Commit{Changes: wrong})})
}

// failedReader holds that a reader that fails at wrong bytes, or has failed, tells a zero one, and reads no more.
func failedReader[T any](t *testing.T, s side[T]) {
	var none T
	for kind := range s.fields {
		b, _ := s.encode(s.full(kind))
		wrong := [][]byte{{byte(len(s.fields))}, num(api.MaxNumber), {128, 0}}
		for i := range b {
			wrong = append(wrong, b[:i], join(b[:i], []byte{128, 0}, b[i:]), join(b[:i], []byte{255, 255, 255, 255, 255, 255}, b[i:]))
		}
		for _, c := range wrong {
			plain := &plainReader{b: c}
			s.plainTake(plain)
			if plain.failed == api.OK {
				continue // what is wrong stands in a text, or behind it all
			}
			r := codec.NewReader(join([]byte{7}, c))
			r.Num()
			is(t, fmt.Sprintf("taken of %v", brief(c)), s.take(r), none)
			is(t, "taken of a reader that failed", s.take(r), none)
			if r.Fail() != plain.failed || r.Left() != 0 || r.Num() != 0 {
				t.Errorf("a reader of %v: %v, %d left; want %v", brief(c), r.Fail(), r.Left(), plain.failed)
			}
		}
		r := codec.NewReader(b)
		r.Bytes(-1) // fails
		first := r.Fail()
		is(t, "taken of a reader that failed ahead", s.take(r), none)
		if first == api.OK || r.Fail() != first {
			t.Errorf("a reader that failed ahead: %v, then %v", first, r.Fail())
		}
		r = codec.NewReader(join(b, []byte{42}))
		is(t, "taken with a byte behind", s.take(r), s.full(kind))
		if r.End() != api.ErrLong || r.Num() != 42 || r.End() != api.OK {
			t.Errorf("a reader with a byte behind: %v", r.End())
		}
	}
}

// P9.1: a reader that fails tells a zero one.
func TestFailedReader(t *testing.T) {
	both(t, failedReader[api.Request], failedReader[api.Verdict])
	for _, c := range []struct {
		want api.Errno
		b    []byte
	}{
		{api.ErrForm, []byte{8, 1, 1, 1, 1}},
		{api.ErrForm, []byte{2, 1, 1, 1, 0, 65, 0, 1, 0, 1}},
		{api.ErrLong, join([]byte{1}, text(256), []byte{1})},
		{api.ErrShort, []byte{2, 1, 1, 1, 0, 2, 0, 1}},
	} {
		r := codec.NewReader(c.b)
		is(t, "Take", entry.Take(r), api.Request{})
		if r.Fail() != c.want || r.Left() != 0 {
			t.Errorf("Take of %v: %v, %d left; want %v", brief(c.b), r.Fail(), r.Left(), c.want)
		}
	}
	for _, c := range []struct {
		want api.Errno
		b    []byte
	}{
		{api.ErrForm, []byte{15, 1, 1, 1, 1}},
		{api.ErrForm, []byte{11, 33, 0, 0, 0, 0}},
		{api.ErrForm, []byte{11, 1, 0, 0, 0, 65, 0, 1}},
		{api.ErrLong, join([]byte{10}, text(256), []byte{1})},
		{api.ErrShort, []byte{11, 2, 1, 0, 0, 0}},
	} {
		r := codec.NewReader(c.b)
		is(t, "Heard", entry.Heard(r), api.Verdict{})
		if r.Fail() != c.want || r.Left() != 0 {
			t.Errorf("Heard of %v: %v, %d left; want %v", brief(c.b), r.Fail(), r.Left(), c.want)
		}
	}
}
