package codec

import (
	"bytes"

	"wapentake/api"
)

// How many bytes of a frame are a length (or a sum), stand ahead of its body, and are not its body.
const (
	lengthSize = 4
	headSize   = 2 * lengthSize
	aroundSize = 3 * lengthSize
)

// Crc is the sum of 32 bits by the polynomial EDB88320, the lowest bit first.
func Crc(b []byte) uint32 {
	sum := ^uint32(0)
	for _, c := range b {
		sum ^= uint32(c)
		for range 8 {
			gone := sum & 1
			sum >>= 1
			if gone == 1 {
				sum ^= 0xEDB88320
			}
		}
	}
	return ^sum
}

// Frame puts a body of at most api.MaxBody bytes between its length and its sum. The length has a sum of its own, so that a turned bit there is told as such.
func Frame(body []byte) ([]byte, api.Errno) {
	if len(body) > api.MaxBody {
		return nil, api.ErrLong
	}
	length := appendHigh(nil, uint64(len(body)), lengthSize)
	return appendSummed(appendSummed(nil, length), body), api.OK
}

// Unframe answers the body of the frame at the beginning of b, and how many bytes that frame has.
func Unframe(b []byte) ([]byte, int, api.Errno) {
	if len(b) < headSize {
		return nil, 0, api.ErrShort
	}
	if !isSummed(b[:headSize]) {
		return nil, 0, api.ErrSum
	}
	length := int(readHigh(b[:lengthSize]))
	if length > api.MaxBody {
		return nil, 0, api.ErrLong
	}
	size := length + aroundSize
	if len(b) < size {
		return nil, 0, api.ErrShort
	}
	if !isSummed(b[headSize:size]) {
		return nil, 0, api.ErrSum
	}
	return bytes.Clone(b[headSize : headSize+length]), size, api.OK
}

// appendSummed appends a part and its sum.
func appendSummed(out, part []byte) []byte {
	out = append(out, part...)
	return appendHigh(out, uint64(Crc(part)), lengthSize)
}

// isSummed tells whether the last bytes of b are the sum of those ahead of them.
func isSummed(b []byte) bool {
	at := len(b) - lengthSize
	return readHigh(b[at:]) == uint64(Crc(b[:at]))
}
