package codec_test

import (
	"bytes"
	"math"
	"testing"

	"wapentake/api"
	"wapentake/codec"
)

// failed holds a reader against what it must be behind a failure: all zero, and that failure.
func failed(t *testing.T, what string, r *codec.Reader, want api.Errno) {
	t.Helper()
	if r.Left() != 0 || r.Fail() != want || r.End() != want {
		t.Errorf("%s: Left %d, Fail %v, End %v, want %v", what, r.Left(), r.Fail(), r.End(), want)
	}
	if r.Num() != 0 || r.Text(9) != "" || len(r.Bytes(9)) != 0 || r.Flag() || r.Word() != 0 {
		t.Errorf("%s: not all is zero behind it", what)
	}
	r.Refuse()
	if r.Left() != 0 || r.Fail() != want || r.End() != want {
		t.Errorf("%s: now Fail is %v, End %v, want %v", what, r.Fail(), r.End(), want)
	}
}

// P1.2: numbers, with bytes left behind them.
func TestReaderNumbers(t *testing.T) {
	for _, c := range []struct {
		b    []byte
		want int
		left int
	}{
		{[]byte{0}, 0, 0},
		{[]byte{0, 0}, 0, 1},
		{[]byte{127, 128}, 127, 1},
		{[]byte{128, 1}, 128, 0},
		{[]byte{172, 2, 1, 2}, 300, 2},
		{[]byte{255, 255, 255, 255, 127}, 1<<35 - 1, 0},
		{[]byte{128, 128, 128, 128, 128, 1}, 1 << 35, 0},
		{[]byte{255, 255, 255, 255, 255, 31}, api.MaxNumber - 1, 0},
		{[]byte{128, 128, 128, 128, 128, 32, 5}, api.MaxNumber, 1},
	} {
		r := codec.NewReader(c.b)
		end := api.OK
		if c.left > 0 {
			end = api.ErrLong
		}
		if n := r.Num(); n != c.want || r.Left() != c.left || r.Fail() != api.OK || r.End() != end {
			t.Errorf("%v: %d, Left %d, Fail %v, End %v", c.b, n, r.Left(), r.Fail(), r.End())
		}
	}
}

// P1.2: bytes that are no number: too few, a last digit 0, a sixth digit that goes on, one above MaxNumber.
func TestReaderRefusesNumbers(t *testing.T) {
	for _, c := range []struct {
		b    []byte
		want api.Errno
	}{
		{nil, api.ErrShort},
		{[]byte{128}, api.ErrShort},
		{[]byte{255, 255, 255, 255, 255}, api.ErrShort},
		{[]byte{128, 0}, api.ErrForm},
		{[]byte{129, 0, 1}, api.ErrForm},
		{[]byte{255, 128, 0}, api.ErrForm},
		{[]byte{128, 128, 128, 128, 128, 0}, api.ErrForm},
		{[]byte{129, 128, 128, 128, 128, 32}, api.ErrForm},
		{[]byte{128, 128, 128, 128, 128, 33}, api.ErrForm},
		{[]byte{128, 128, 128, 128, 128, 127}, api.ErrForm},
		{[]byte{128, 128, 128, 128, 128, 128}, api.ErrForm},
		{[]byte{128, 128, 128, 128, 128, 129, 1}, api.ErrForm},
		{bytes.Repeat([]byte{255}, 12), api.ErrForm},
	} {
		for what, read := range map[string]func(*codec.Reader) bool{
			"Num":   func(r *codec.Reader) bool { return r.Num() == 0 },
			"Text":  func(r *codec.Reader) bool { return r.Text(math.MaxInt) == "" },
			"Bytes": func(r *codec.Reader) bool { return len(r.Bytes(math.MaxInt)) == 0 },
		} {
			r := codec.NewReader(c.b)
			if !read(r) {
				t.Errorf("%s of %v: not zero", what, c.b)
			}
			failed(t, what, r, c.want)
		}
	}
}

// P1.2: texts and lists, at most and past it, whole and cut.
func TestReaderRuns(t *testing.T) {
	for _, c := range []struct {
		most int
		b    []byte
		want string
		left int
		fail api.Errno
	}{
		{0, []byte{0}, "", 0, api.OK},
		{3, []byte{3, 97, 98, 99}, "abc", 0, api.OK},
		{math.MaxInt, []byte{2, 0, 255, 1, 1}, "\x00\xff", 2, api.OK},
		{2, []byte{3, 97, 98, 99}, "", 0, api.ErrLong},
		{2, []byte{3}, "", 0, api.ErrLong}, // too long and too short: ErrLong is named first
		{-1, []byte{0}, "", 0, api.ErrLong},
		{math.MinInt, []byte{0, 1}, "", 0, api.ErrLong},
		{-1, []byte{128, 0}, "", 0, api.ErrForm}, // the length itself comes ahead of most
		{-1, nil, "", 0, api.ErrShort},
		{3, []byte{3, 97, 98}, "", 0, api.ErrShort},
		{3, []byte{1}, "", 0, api.ErrShort},
		{math.MaxInt, []byte{128, 128, 128, 128, 128, 32, 1}, "", 0, api.ErrShort},
	} {
		r, s := codec.NewReader(c.b), codec.NewReader(c.b)
		text, list := r.Text(c.most), s.Bytes(c.most)
		if text != c.want || string(list) != c.want {
			t.Errorf("%v, most %d: %q, %q, want %q", c.b, c.most, text, list, c.want)
		}
		for _, r := range []*codec.Reader{r, s} {
			if r.Left() != c.left || r.Fail() != c.fail {
				t.Errorf("%v, most %d: Left %d, Fail %v, want %d, %v", c.b, c.most, r.Left(), r.Fail(), c.left, c.fail)
			}
			if c.fail != api.OK {
				failed(t, "a run", r, c.fail)
			}
		}
	}
}

// P1.2: most alone bounds what is read; MaxBody does not.
func TestReaderMaxBody(t *testing.T) {
	for _, n := range []int{api.MaxBody, api.MaxBody + 1} {
		b, _ := written(num(n))
		b = append(b, make([]byte, n)...)
		if r := codec.NewReader(b); len(r.Text(n)) != n || r.End() != api.OK {
			t.Errorf("a text of %d bytes: %v", n, r.Fail())
		}
		if r := codec.NewReader(b); len(r.Bytes(n-1)) != 0 || r.Fail() != api.ErrLong {
			t.Errorf("a list of %d bytes, most one less: %v", n, r.Fail())
		}
	}
}

// P1.2: flags and words, and what is none.
func TestReaderFlagsAndWords(t *testing.T) {
	r := codec.NewReader([]byte{0, 1, 1, 2, 3, 4, 5, 6, 7, 8})
	if r.Flag() || !r.Flag() || r.Word() != 0x0102030405060708 || r.End() != api.OK {
		t.Errorf("flags and a word: Left %d, Fail %v", r.Left(), r.Fail())
	}
	for _, c := range []struct {
		b    []byte
		want api.Errno
	}{{nil, api.ErrShort}, {[]byte{2, 1}, api.ErrForm}, {[]byte{128}, api.ErrForm}, {[]byte{255, 0}, api.ErrForm}} {
		r := codec.NewReader(c.b)
		if r.Flag() {
			t.Errorf("a flag of %v", c.b)
		}
		failed(t, "Flag", r, c.want)
	}
	for n := range 8 {
		r := codec.NewReader(bytes.Repeat([]byte{255}, n))
		if r.Word() != 0 {
			t.Errorf("a word of %d bytes", n)
		}
		failed(t, "Word", r, api.ErrShort)
	}
}

// P1.2: Refuse fails by ErrForm, where nothing failed ahead of it.
func TestReaderRefuse(t *testing.T) {
	for _, b := range [][]byte{nil, {1, 2, 3}} {
		r := codec.NewReader(b)
		r.Refuse()
		failed(t, "Refuse", r, api.ErrForm)
	}
	r := codec.NewReader([]byte{1, 2})
	r.Num()
	r.Refuse()
	failed(t, "Refuse behind a number", r, api.ErrForm)
	s := codec.NewReader([]byte{1})
	s.Word()
	failed(t, "Refuse behind a failure", s, api.ErrShort)
}

// P1.2: bytes that are left over are ErrLong to End alone: the reader reads on.
func TestReaderEnd(t *testing.T) {
	r := codec.NewReader([]byte{5, 6})
	if r.Num() != 5 || r.End() != api.ErrLong || r.Left() != 1 || r.Fail() != api.OK {
		t.Errorf("a byte left over: Left %d, Fail %v, End %v", r.Left(), r.Fail(), r.End())
	}
	if r.Num() != 6 || r.End() != api.OK || r.Left() != 0 {
		t.Errorf("read on: Left %d, End %v", r.Left(), r.End())
	}
	if r := codec.NewReader(nil); r.End() != api.OK || r.Fail() != api.OK || r.Left() != 0 {
		t.Errorf("nothing: Left %d, Fail %v, End %v", r.Left(), r.Fail(), r.End())
	}
}

// R4: a reader changes and keeps no list that is handed in, and its answers share nothing.
func TestReaderSharesNothing(t *testing.T) {
	b := []byte{1, 7, 1, 8}
	r := codec.NewReader(b)
	b[3] = 99
	first := r.Bytes(1)
	first = first[:cap(first)]
	for i := range first {
		first[i] = 55
	}
	if second := r.Bytes(1); !bytes.Equal(second, []byte{8}) {
		t.Errorf("read %v, want 8: memory is shared", second)
	}
	if !bytes.Equal(b, []byte{1, 7, 1, 99}) {
		t.Errorf("the list that was handed in is now %v", b)
	}
}

// R7: no reader, and one that NewReader did not make.
func TestReaderNotMade(t *testing.T) {
	for what, r := range map[string]*codec.Reader{"nil": nil, "bare": {}} {
		failed(t, what, r, api.ErrState)
	}
}
