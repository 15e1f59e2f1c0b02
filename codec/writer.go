package codec

import (
	"bytes"

	"wapentake/api"
)

// Writer writes one thing behind the other, until it fails.
type Writer struct {
	made   bool // a Writer that NewWriter did not make is refused
	out    []byte
	failed api.Errno
}

// NewWriter makes a writer that has written nothing.
func NewWriter() *Writer { return &Writer{made: true} }

// Num writes a number from 0 to api.MaxNumber; any other one fails by ErrArg.
func (w *Writer) Num(n int) {
	if !w.writes() {
		return
	}
	if n < 0 || n > api.MaxNumber {
		w.fail(api.ErrArg)
		return
	}
	w.out = appendNumber(w.out, n)
}

// Text writes a text's length and its bytes; more than api.MaxBody bytes fail by ErrLong.
func (w *Writer) Text(s string) { writeRun(w, s) }

// Bytes writes a list of bytes as Text does a text.
func (w *Writer) Bytes(b []byte) { writeRun(w, b) }

// Flag writes a byte 0 or 1.
func (w *Writer) Flag(b bool) {
	if !w.writes() {
		return
	}
	var c byte
	if b {
		c = 1
	}
	w.out = append(w.out, c)
}

// Word writes 8 bytes, the highest first.
func (w *Writer) Word(x uint64) {
	if !w.writes() {
		return
	}
	w.out = appendHigh(w.out, x, 8)
}

// Refuse makes the writer fail by ErrArg.
func (w *Writer) Refuse() {
	if w.writes() {
		w.fail(api.ErrArg)
	}
}

// Done answers the bytes so far, or what the writer failed by first.
func (w *Writer) Done() ([]byte, api.Errno) {
	if w == nil || !w.made {
		return nil, api.ErrState
	}
	if w.failed != api.OK {
		return nil, w.failed
	}
	// A copy: the writer may go on, and whoever asked may change what it got.
	return bytes.Clone(w.out), api.OK
}

// writes tells whether what the writer is given still counts.
func (w *Writer) writes() bool {
	return w != nil && w.made && w.failed == api.OK
}

// fail drops the bytes too, since no later call tells them.
func (w *Writer) fail(e api.Errno) {
	w.failed = e
	w.out = nil
}

// writeRun writes the bytes of a text or of a list behind their length.
func writeRun[T string | []byte](w *Writer, run T) {
	if !w.writes() {
		return
	}
	if len(run) > api.MaxBody {
		w.fail(api.ErrLong)
		return
	}
	w.out = appendNumber(w.out, len(run))
	w.out = append(w.out, run...)
}
