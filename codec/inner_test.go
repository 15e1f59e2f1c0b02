package codec

import (
	"testing"

	"wapentake/api"
)

// R1: a panic that no step of a reader means does not leave the call, and the reader does not go on.
func TestReaderCatchesAnyPanic(t *testing.T) {
	r := NewReader([]byte{1, 2})
	n := read(r, func(*Reader) int { panic("not an Errno") })
	if n != 0 || r.Fail() != api.ErrState || r.Left() != 0 {
		t.Errorf("%d, Fail %v, Left %d", n, r.Fail(), r.Left())
	}
}
