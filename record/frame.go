package record

import (
	"wapentake/api"
	"wapentake/codec"
)

// Frame answers the bytes of records that belong together.
func Frame(records [][]byte) ([]byte, api.Errno) {
	w := codec.NewWriter()
	w.Num(len(records))
	room := api.MaxBody
	for _, one := range records {
		// Counted here, too, so that what no frame has room for is not written in whole first.
		room -= len(one)
		if room < 0 {
			return nil, api.ErrLong
		}
		w.Bytes(one)
	}
	body, e := w.Done()
	if e != api.OK {
		return nil, e
	}
	return codec.Frame(body)
}

// Scan answers the records of the whole frames at the beginning of b, and how many bytes those have; what is behind them is torn.
func Scan(b []byte) ([][]byte, int, api.Errno) {
	var all [][]byte
	size := 0
frames:
	for size < len(b) {
		body, n, e := codec.Unframe(b[size:])
		switch e {
		case api.OK:
		case api.ErrShort:
			break frames
		default:
			return nil, 0, api.ErrSpoilt
		}
		records, ok := unpack(body)
		if !ok {
			return nil, 0, api.ErrSpoilt
		}
		all = append(all, records...)
		size += n
	}
	return all, size, api.OK
}

// unpack answers the records of a frame's body; false, if Frame writes no such body.
func unpack(body []byte) ([][]byte, bool) {
	r := codec.NewReader(body)
	var records [][]byte
	for range r.Num() {
		one := r.Bytes(api.MaxBody)
		// Asked at each: the number may say far more than there are.
		if r.Fail() != api.OK {
			return nil, false
		}
		records = append(records, one)
	}
	if r.End() != api.OK {
		return nil, false
	}
	return records, true
}
