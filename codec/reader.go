package codec

import (
	"bytes"

	"wapentake/api"
)

// Reader reads one thing behind the other, until it fails.
type Reader struct {
	made   bool // a Reader that NewReader did not make is refused
	rest   []byte
	failed api.Errno
}

// NewReader makes a reader at the beginning of b. It keeps a copy, so that whoever has b may change it.
func NewReader(b []byte) *Reader {
	return &Reader{made: true, rest: bytes.Clone(b)}
}

// Num reads a number.
func (r *Reader) Num() int { return read(r, (*Reader).number) }

// Text reads a text of at most that many bytes.
func (r *Reader) Text(most int) string {
	return read(r, func(r *Reader) string { return string(r.run(most)) })
}

// Bytes reads a list of at most that many bytes.
func (r *Reader) Bytes(most int) []byte {
	return read(r, func(r *Reader) []byte { return bytes.Clone(r.run(most)) })
}

// Flag reads a byte 0 or 1.
func (r *Reader) Flag() bool { return read(r, (*Reader).flag) }

// Word reads 8 bytes, the highest first.
func (r *Reader) Word() uint64 {
	return read(r, func(r *Reader) uint64 { return readHigh(r.take(8)) })
}

// Refuse makes the reader fail by ErrForm.
func (r *Reader) Refuse() {
	read(r, func(*Reader) bool { panic(api.ErrForm) })
}

// Left is how many bytes are left; none behind a failure.
func (r *Reader) Left() int {
	if r == nil {
		return 0
	}
	return len(r.rest)
}

// Fail is what the reader failed by first, or OK.
func (r *Reader) Fail() api.Errno {
	if r == nil || !r.made {
		return api.ErrState
	}
	return r.failed
}

// End is Fail, and ErrLong where bytes are left. The reader does not fail by that: it may read on.
func (r *Reader) End() api.Errno {
	if e := r.Fail(); e != api.OK {
		return e
	}
	if r.Left() > 0 {
		return api.ErrLong
	}
	return api.OK
}

// read runs one step of a reader. What is wrong comes as a panic with an Errno, and is what the reader fails by from then on.
func read[T any](r *Reader, step func(*Reader) T) (answer T) {
	if r.Fail() != api.OK {
		return answer
	}
	defer func() {
		switch x := recover().(type) {
		case nil:
		case api.Errno:
			r.fail(x)
		default: // no step means this one; but no call may panic, nor go on as if all were well
			r.fail(api.ErrState)
		}
	}()
	return step(r)
}

// fail drops the bytes too, since no later call reads them.
func (r *Reader) fail(e api.Errno) {
	r.failed = e
	r.rest = nil
}

// take goes on by n bytes (not below 0) and answers them; they are the reader's own.
func (r *Reader) take(n int) []byte {
	if n > len(r.rest) {
		panic(api.ErrShort)
	}
	taken := r.rest[:n]
	r.rest = r.rest[n:]
	return taken
}

// number takes a number, in the one form that a writer gives it.
func (r *Reader) number() int {
	n := 0
	for i := range mostDigits {
		digit := r.take(1)[0]
		n |= int(digit&127) << (7 * i)
		if digit >= 128 {
			continue
		}
		if digit == 0 && i > 0 || n > api.MaxNumber {
			panic(api.ErrForm)
		}
		return n
	}
	panic(api.ErrForm)
}

// run takes a length, and as many bytes; they are the reader's own.
func (r *Reader) run(most int) []byte {
	n := r.number()
	if n > most {
		panic(api.ErrLong)
	}
	return r.take(n)
}

// flag takes a byte 0 or 1.
func (r *Reader) flag() bool {
	c := r.take(1)[0]
	if c > 1 {
		panic(api.ErrForm)
	}
	return c == 1
}
