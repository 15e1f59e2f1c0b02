package codec_test

import (
	"bytes"
	"math"
	"strings"
	"testing"

	"wapentake/api"
	"wapentake/codec"
)

// written is what a writer has done behind the steps.
func written(steps ...func(*codec.Writer)) ([]byte, api.Errno) {
	w := codec.NewWriter()
	for _, step := range steps {
		step(w)
	}
	return w.Done()
}

func num(n int) func(*codec.Writer)     { return func(w *codec.Writer) { w.Num(n) } }
func text(s string) func(*codec.Writer) { return func(w *codec.Writer) { w.Text(s) } }
func list(b []byte) func(*codec.Writer) { return func(w *codec.Writer) { w.Bytes(b) } }
func flag(b bool) func(*codec.Writer)   { return func(w *codec.Writer) { w.Flag(b) } }
func word(x uint64) func(*codec.Writer) { return func(w *codec.Writer) { w.Word(x) } }
func refuse(w *codec.Writer)            { w.Refuse() }
func longText() func(*codec.Writer)     { return text(strings.Repeat("x", api.MaxBody+1)) }
func longList() func(*codec.Writer)     { return list(make([]byte, api.MaxBody+1)) }

// all is one step of each kind, none of which fails.
func all() []func(*codec.Writer) {
	return []func(*codec.Writer){num(7), text("a"), list([]byte{2}), flag(true), word(9)}
}

// P1.1: the form of a number, at the edges of its digits.
func TestWriterNumbers(t *testing.T) {
	for _, c := range []struct {
		n    int
		want []byte
	}{
		{0, []byte{0}},
		{1, []byte{1}},
		{127, []byte{127}},
		{128, []byte{128, 1}},
		{300, []byte{172, 2}},
		{1<<14 - 1, []byte{255, 127}},
		{1 << 14, []byte{128, 128, 1}},
		{1 << 21, []byte{128, 128, 128, 1}},
		{1 << 28, []byte{128, 128, 128, 128, 1}},
		{1<<35 - 1, []byte{255, 255, 255, 255, 127}},
		{1 << 35, []byte{128, 128, 128, 128, 128, 1}},
		{api.MaxNumber - 1, []byte{255, 255, 255, 255, 255, 31}},
		{api.MaxNumber, []byte{128, 128, 128, 128, 128, 32}},
	} {
		if b, e := written(num(c.n)); e != api.OK || !bytes.Equal(b, c.want) {
			t.Errorf("Num(%d): %v, %v, want %v", c.n, b, e, c.want)
		}
	}
}

// P1.1: a number that may not be.
func TestWriterRefusesNumbers(t *testing.T) {
	for _, n := range []int{-1, math.MinInt, api.MaxNumber + 1, 1 << 42, math.MaxInt} {
		if b, e := written(num(5), num(n)); e != api.ErrArg || len(b) != 0 {
			t.Errorf("Num(%d): %v, %v, want ErrArg", n, b, e)
		}
	}
}

// P1.1: the forms of all else, one behind the other.
func TestWriterForms(t *testing.T) {
	for _, c := range []struct {
		what  string
		steps []func(*codec.Writer)
		want  []byte
	}{
		{"nothing", nil, nil},
		{"a text", []func(*codec.Writer){text("ab")}, []byte{2, 97, 98}},
		{"an empty text", []func(*codec.Writer){text("")}, []byte{0}},
		{"a text that is not UTF-8", []func(*codec.Writer){text("\xff\x00")}, []byte{2, 255, 0}},
		{"a list", []func(*codec.Writer){list([]byte{0, 255})}, []byte{2, 0, 255}},
		{"no list", []func(*codec.Writer){list(nil)}, []byte{0}},
		{"an empty list", []func(*codec.Writer){list([]byte{})}, []byte{0}},
		{"flags", []func(*codec.Writer){flag(false), flag(true)}, []byte{0, 1}},
		{"a word", []func(*codec.Writer){word(0x0102030405060708)}, []byte{1, 2, 3, 4, 5, 6, 7, 8}},
		{"the greatest word", []func(*codec.Writer){word(math.MaxUint64)}, bytes.Repeat([]byte{255}, 8)},
		{"all", all(), []byte{7, 1, 97, 1, 2, 1, 0, 0, 0, 0, 0, 0, 0, 9}},
	} {
		if b, e := written(c.steps...); e != api.OK || !bytes.Equal(b, c.want) {
			t.Errorf("%s: %v, %v, want %v", c.what, b, e, c.want)
		}
	}
}

// P1.1: at MaxBody all is well; one past it is ErrLong.
func TestWriterMaxBody(t *testing.T) {
	body := bytes.Repeat([]byte{7}, api.MaxBody)
	want := append([]byte{128, 128, 64}, body...)
	for what, step := range map[string]func(*codec.Writer){"text": text(string(body)), "list": list(body)} {
		if b, e := written(step); e != api.OK || !bytes.Equal(b, want) {
			t.Errorf("a %s of MaxBody bytes: %d bytes, %v", what, len(b), e)
		}
	}
	for what, step := range map[string]func(*codec.Writer){"text": longText(), "list": longList()} {
		if b, e := written(num(1), step); e != api.ErrLong || len(b) != 0 {
			t.Errorf("a %s of one byte more: %d bytes, %v, want ErrLong", what, len(b), e)
		}
	}
	// The limit is that of each text, not of all that is written.
	if b, e := written(list(body), list(body)); e != api.OK || len(b) != 2*len(want) {
		t.Errorf("two lists of MaxBody bytes: %d bytes, %v", len(b), e)
	}
}

// P1.1: what a writer fails by first stays, and it writes nothing more.
func TestWriterFirstFailureStays(t *testing.T) {
	failures := []struct {
		what string
		step func(*codec.Writer)
		want api.Errno
	}{
		{"Num(-1)", num(-1), api.ErrArg},
		{"a long text", longText(), api.ErrLong},
		{"a long list", longList(), api.ErrLong},
		{"Refuse", refuse, api.ErrArg},
	}
	for _, first := range failures {
		for _, second := range failures {
			steps := append([]func(*codec.Writer){num(1), first.step, second.step}, all()...)
			if b, e := written(steps...); e != first.want || len(b) != 0 {
				t.Errorf("%s, %s: %v, %v, want %v", first.what, second.what, b, e, first.want)
			}
		}
	}
}

// P1.1, R4: Done may be asked again, and tells what is its asker's own.
func TestWriterDoneAgain(t *testing.T) {
	w := codec.NewWriter()
	w.Num(1)
	first, _ := w.Done()
	again, _ := w.Done()
	w.Num(2)
	longer, e := w.Done()
	if e != api.OK || !bytes.Equal(longer, []byte{1, 2}) {
		t.Fatalf("behind Done: %v, %v", longer, e)
	}
	for _, b := range [][]byte{first, longer} {
		b = b[:cap(b)]
		for i := range b {
			b[i] = 99
		}
	}
	w.Num(3)
	if b, _ := w.Done(); !bytes.Equal(b, []byte{1, 2, 3}) || !bytes.Equal(again, []byte{1}) {
		t.Errorf("what was answered is shared: %v, %v", b, again)
	}
	w.Num(-1)
	if b, e := w.Done(); e != api.ErrArg || len(b) != 0 {
		t.Errorf("a failure behind Done: %v, %v", b, e)
	}
}

// R4: a list that is handed in is not changed, nor kept.
func TestWriterKeepsNoList(t *testing.T) {
	room := []byte{1, 2, 3, 4}
	w := codec.NewWriter()
	w.Bytes(room[:2])
	w.Word(0)
	if !bytes.Equal(room, []byte{1, 2, 3, 4}) {
		t.Errorf("the list that was handed in is now %v", room)
	}
	room[0] = 9
	if b, _ := w.Done(); !bytes.Equal(b[:3], []byte{2, 1, 2}) {
		t.Errorf("the list is kept: %v", b)
	}
}

// R7: no writer, and one that NewWriter did not make.
func TestWriterNotMade(t *testing.T) {
	for what, w := range map[string]*codec.Writer{"nil": nil, "bare": {}} {
		for _, step := range append(all(), num(-1), longText(), longList(), refuse) {
			step(w)
			if b, e := w.Done(); e != api.ErrState || len(b) != 0 {
				t.Errorf("%s: %v, %v, want ErrState", what, b, e)
			}
		}
	}
}
