package codec_test

import (
	"bytes"
	"hash/crc32"
	"testing"

	"wapentake/api"
	"wapentake/codec"
)

// pattern is n bytes in which no short run comes again soon.
func pattern(n int) []byte {
	b := make([]byte, n)
	x := uint32(n) + 1
	for i := range b {
		x = x*1664525 + 1013904223
		b[i] = byte(x >> 24)
	}
	return b
}

// P1.3: Crc, at what is known of it, and beside the library's own.
func TestCrc(t *testing.T) {
	if got := codec.Crc([]byte("123456789")); got != 0xcbf43926 {
		t.Errorf("Crc of 123456789: %x", got)
	}
	if got := codec.Crc(nil); got != 0 {
		t.Errorf("Crc of nothing: %x", got)
	}
	for n := range 300 {
		if b := pattern(n); codec.Crc(b) != crc32.ChecksumIEEE(b) {
			t.Errorf("Crc of %d bytes: %x, want %x", n, codec.Crc(b), crc32.ChecksumIEEE(b))
		}
	}
}

// P1.3: a frame, byte for byte, alone and with bytes behind it.
func TestFrame(t *testing.T) {
	for _, n := range []int{0, 1, 4, 255, 256, 65536, api.MaxBody} {
		body := pattern(n)
		want := []byte{byte(n >> 24), byte(n >> 16), byte(n >> 8), byte(n)}
		want = high(want, crc32.ChecksumIEEE(want))
		want = append(want, body...)
		want = high(want, crc32.ChecksumIEEE(body))
		f, e := codec.Frame(body)
		if e != api.OK || !bytes.Equal(f, want) || len(f) != n+12 {
			t.Errorf("a frame of %d bytes: %d bytes, %v", n, len(f), e)
		}
		for _, more := range [][]byte{nil, {0}, f} {
			got, size, e := codec.Unframe(append(f[:len(f):len(f)], more...))
			if e != api.OK || size != n+12 || !bytes.Equal(got, body) {
				t.Errorf("a frame of %d bytes and %d more: %d bytes, size %d, %v", n, len(more), len(got), size, e)
			}
		}
	}
}

// high appends x, its highest byte first.
func high(b []byte, x uint32) []byte {
	return append(b, byte(x>>24), byte(x>>16), byte(x>>8), byte(x))
}

// P1.3: a body that is too long.
func TestFrameTooLong(t *testing.T) {
	if f, e := codec.Frame(make([]byte, api.MaxBody+1)); e != api.ErrLong || len(f) != 0 {
		t.Errorf("MaxBody + 1: %d bytes, %v", len(f), e)
	}
}

// P1.3: what Unframe refuses, and by which error where several could be.
func TestUnframeRefuses(t *testing.T) {
	// headed is a head for that length, its sum right.
	headed := func(n uint32) []byte {
		b := high(nil, n)
		return high(b, crc32.ChecksumIEEE(b))
	}
	turned := func(b []byte, at int) []byte {
		b = bytes.Clone(b)
		b[at] ^= 1
		return b
	}
	whole, _ := codec.Frame([]byte("body"))
	for _, c := range []struct {
		what string
		b    []byte
		want api.Errno
	}{
		{"nothing", nil, api.ErrShort},
		{"seven wrong bytes", bytes.Repeat([]byte{9}, 7), api.ErrShort},
		{"eight wrong bytes", bytes.Repeat([]byte{9}, 8), api.ErrSum},
		{"a wrong length above MaxBody", turned(headed(api.MaxBody+1), 7), api.ErrSum},
		{"MaxBody + 1", headed(api.MaxBody + 1), api.ErrLong},
		{"the greatest length", append(headed(1<<32-1), 1, 2, 3), api.ErrLong},
		{"MaxBody and no body", headed(api.MaxBody), api.ErrShort},
		{"a head alone", headed(0), api.ErrShort},
		{"a wrong body, a byte short", turned(whole, 9)[:15], api.ErrShort},
		{"a wrong body", turned(whole, 9), api.ErrSum},
		{"a wrong sum", turned(whole, 15), api.ErrSum},
		{"a wrong sum, and more", append(turned(whole, 12), whole...), api.ErrSum},
	} {
		if body, size, e := codec.Unframe(c.b); e != c.want || size != 0 || len(body) != 0 {
			t.Errorf("%s: %v, %d, %v, want %v", c.what, body, size, e, c.want)
		}
	}
}

// R4: frames share nothing with what is handed in.
func TestFrameSharesNothing(t *testing.T) {
	room := []byte("body and room")
	f, _ := codec.Frame(room[:4])
	if string(room) != "body and room" {
		t.Errorf("the body that was handed in is now %q", room)
	}
	room[0] = 'x'
	body, _, e := codec.Unframe(f)
	if e != api.OK || string(body) != "body" {
		t.Fatalf("a frame shares its body: %q, %v", body, e)
	}
	body = body[:cap(body)]
	for i := range body {
		body[i] = 0
	}
	if again, _, e := codec.Unframe(f); e != api.OK || string(again) != "body" {
		t.Errorf("a body shares its frame: %q, %v", again, e)
	}
}
