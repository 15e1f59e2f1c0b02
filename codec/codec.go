// Package codec writes numbers and texts as bytes of which there is one form alone, and reads them, or says what is wrong. See DOC.md, chapter 1.
package codec

// mostDigits is how many digits the greatest number has.
const mostDigits = 6

// appendNumber appends n (not below 0) as digits of 7 bits, the lowest first.
func appendNumber(out []byte, n int) []byte {
	for n >= 128 {
		out = append(out, byte(n)|128)
		n >>= 7
	}
	return append(out, byte(n))
}

// appendHigh appends the lowest many bytes of x, the highest of them first.
func appendHigh(out []byte, x uint64, many int) []byte {
	for i := range many {
		out = append(out, byte(x>>(8*(many-1-i))))
	}
	return out
}

// readHigh is what appendHigh wrote as b.
func readHigh(b []byte) uint64 {
	var x uint64
	for _, c := range b {
		x = x<<8 | uint64(c)
	}
	return x
}
