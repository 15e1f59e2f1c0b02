package codec_test

import (
	"bytes"
	"math"
	"math/rand"
	"testing"

	"wapentake/api"
	"wapentake/codec"
)

// deal draws a thing: how it is written, and whether a reader reads just that.
func deal(d *rand.Rand) (func(*codec.Writer), func(*codec.Reader) bool) {
	switch d.Intn(5) {
	case 0:
		n := int(d.Int63n(api.MaxNumber+1)) >> d.Intn(41)
		return num(n), func(r *codec.Reader) bool { return r.Num() == n }
	case 1:
		s := string(pattern(d.Intn(300)))
		return text(s), func(r *codec.Reader) bool { return r.Text(len(s)) == s }
	case 2:
		b := pattern(d.Intn(300))
		return list(b), func(r *codec.Reader) bool { return bytes.Equal(r.Bytes(len(b)), b) }
	case 3:
		b := d.Intn(2) == 1
		return flag(b), func(r *codec.Reader) bool { return r.Flag() == b }
	}
	x := d.Uint64()
	return word(x), func(r *codec.Reader) bool { return r.Word() == x }
}

// P1.4: what was written is read, in that order, and End is OK.
func TestWrittenIsRead(t *testing.T) {
	d := rand.New(rand.NewSource(1))
	for round := range 300 {
		w := codec.NewWriter()
		var reads []func(*codec.Reader) bool
		for range d.Intn(20) {
			write, read := deal(d)
			write(w)
			reads = append(reads, read)
		}
		b, e := w.Done()
		r := codec.NewReader(b)
		for i, read := range reads {
			if !read(r) {
				t.Fatalf("round %d: thing %d is read as another one", round, i)
			}
		}
		if e != api.OK || r.End() != api.OK {
			t.Fatalf("round %d: Done %v, End %v", round, e, r.End())
		}
	}
}

// again reads one thing of that kind and writes what it read.
func again(kind int, r *codec.Reader, w *codec.Writer) {
	switch kind {
	case 0:
		w.Num(r.Num())
	case 1:
		w.Text(r.Text(math.MaxInt))
	case 2:
		w.Bytes(r.Bytes(math.MaxInt))
	case 3:
		w.Flag(r.Flag())
	case 4:
		w.Word(r.Word())
	}
}

// P1.4: what was read, written again, is the same bytes. All lists of up to two bytes, and drawn ones.
func TestReadIsWrittenAgain(t *testing.T) {
	var lists [][]byte
	for i := range 256 {
		lists = append(lists, []byte{byte(i)})
		for j := range 256 {
			lists = append(lists, []byte{byte(i), byte(j)})
		}
	}
	d := rand.New(rand.NewSource(2))
	for range 20000 {
		b := make([]byte, d.Intn(12))
		d.Read(b)
		for i := range b { // high bits and small digits come more often, so that edges do
			b[i] &= []byte{255, 129, 128, 3}[d.Intn(4)]
		}
		lists = append(lists, b)
	}
	for _, b := range lists {
		for kind := range 5 {
			r, w := codec.NewReader(b), codec.NewWriter()
			again(kind, r, w)
			if r.Fail() != api.OK {
				continue
			}
			got, e := w.Done()
			if e != api.OK || !bytes.Equal(got, b[:len(b)-r.Left()]) {
				t.Fatalf("kind %d of %v: written again %v, %v", kind, b, got, e)
			}
		}
	}
}

// P1.4: of a frame each shorter beginning is ErrShort, and a frame of which one bit is turned is ErrSum.
func TestFrameCutOrTurned(t *testing.T) {
	for _, n := range []int{0, 1, 5, 260} {
		f, _ := codec.Frame(pattern(n))
		for i := range f {
			if body, size, e := codec.Unframe(f[:i]); e != api.ErrShort || size != 0 || len(body) != 0 {
				t.Fatalf("%d bytes of a frame of %d: %v", i, n, e)
			}
		}
		for i := range 8 * len(f) {
			f[i/8] ^= 1 << (i % 8)
			if body, size, e := codec.Unframe(f); e != api.ErrSum || size != 0 || len(body) != 0 {
				t.Fatalf("bit %d of a frame of %d turned: %v", i, n, e)
			}
			f[i/8] ^= 1 << (i % 8)
		}
	}
}

// P1.4 at MaxBody: at the places where the parts of a frame meet.
func TestGreatFrameCutOrTurned(t *testing.T) {
	f, _ := codec.Frame(pattern(api.MaxBody))
	for _, at := range []int{0, 3, 4, 7, 8, 8 + api.MaxBody/2, 7 + api.MaxBody, 8 + api.MaxBody, len(f) - 1} {
		if _, _, e := codec.Unframe(f[:at]); e != api.ErrShort {
			t.Errorf("%d bytes: %v", at, e)
		}
		f[at] ^= 128
		if _, _, e := codec.Unframe(f); e != api.ErrSum {
			t.Errorf("a bit of byte %d turned: %v", at, e)
		}
		f[at] ^= 128
	}
}
