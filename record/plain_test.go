package record_test

import (
	"bytes"
	"encoding/binary"
	"hash/crc32"
	"slices"

	"wapentake/api"
	"wapentake/file"
)

// framed is a frame around a body, by chapter 1's words.
func framed(body []byte) []byte {
	out := binary.BigEndian.AppendUint32(nil, uint32(len(body)))
	out = binary.BigEndian.AppendUint32(out, crc32.ChecksumIEEE(out))
	out = append(out, body...)
	return binary.BigEndian.AppendUint32(out, crc32.ChecksumIEEE(body))
}

// headed is the beginning of a frame whose body has n bytes.
func headed(n uint32) []byte {
	out := binary.BigEndian.AppendUint32(nil, n)
	return binary.BigEndian.AppendUint32(out, crc32.ChecksumIEEE(out))
}

// listed is the body of a frame of records.
func listed(records [][]byte) []byte {
	out := binary.AppendUvarint(nil, uint64(len(records)))
	for _, one := range records {
		out = binary.AppendUvarint(out, uint64(len(one)))
		out = append(out, one...)
	}
	return out
}

// plainNumber takes a number from b's beginning: it, and what is behind it; false, if there is none in its one form.
func plainNumber(b []byte) (int, []byte, bool) {
	n, size := binary.Uvarint(b)
	if size <= 0 || n > 1<<40 || !bytes.Equal(binary.AppendUvarint(nil, n), b[:size]) {
		return 0, nil, false
	}
	return int(n), b[size:], true
}

// plainList is the records of a body; false, if it is not just a list of bytes.
func plainList(body []byte) ([][]byte, bool) {
	many, rest, ok := plainNumber(body)
	if !ok || many > len(rest) {
		return nil, false
	}
	var records [][]byte
	for range many {
		var n int
		if n, rest, ok = plainNumber(rest); !ok || n > len(rest) {
			return nil, false
		}
		records = append(records, rest[:n])
		rest = rest[n:]
	}
	return records, len(rest) == 0
}

// plainUnframe is the body of the frame at b's beginning; torn, if b ends within the frame; false, if it is wrong.
func plainUnframe(b []byte) (body []byte, torn, ok bool) {
	if len(b) < 8 {
		return nil, true, true
	}
	n := int(binary.BigEndian.Uint32(b))
	if !bytes.Equal(b[:8], headed(uint32(n))) || n > 1<<20 {
		return nil, false, false
	}
	if len(b) < n+12 {
		return nil, true, true
	}
	body = b[8 : 8+n]
	return body, false, bytes.Equal(b[:n+12], framed(body))
}

// plainScan is Scan.
func plainScan(b []byte) ([][]byte, int, api.Errno) {
	var all [][]byte
	size := 0
	for size < len(b) {
		body, torn, ok := plainUnframe(b[size:])
		if torn {
			break
		}
		records, just := plainList(body)
		if !ok || !just {
			return nil, 0, api.ErrSpoilt
		}
		all = append(all, records...)
		size += len(body) + 12
	}
	return all, size, api.OK
}

// plainLog is a log by the chapter's words.
type plainLog struct {
	f       *file.Files
	name    string
	records [][]byte
}

// inTurn takes steps until one is refused.
func inTurn(steps ...func() api.Errno) api.Errno {
	for _, step := range steps {
		if e := step(); e != api.OK {
			return e
		}
	}
	return api.OK
}

// plainCreate is Create of a disk.
func plainCreate(f *file.Files, name string) (*plainLog, api.Errno) {
	var steps []func() api.Errno
	if slices.Contains(f.Names(), name) {
		steps = append(steps, func() api.Errno { return f.Remove(name) })
	}
	steps = append(steps,
		func() api.Errno { return f.Append(name, nil) },
		func() api.Errno { return f.Sync(name) })
	if e := inTurn(steps...); e != api.OK {
		return nil, e
	}
	return &plainLog{f: f, name: name}, api.OK
}

// plainOpen is Open of a disk.
func plainOpen(f *file.Files, name string) (*plainLog, api.Errno) {
	if f.Dead() {
		return nil, api.ErrDead
	}
	if !slices.Contains(f.Names(), name) {
		return nil, api.ErrNone
	}
	b, _ := f.Read(name)
	records, size, e := plainScan(b)
	if e != api.OK {
		return nil, e
	}
	if size < len(b) {
		e = inTurn(
			func() api.Errno { return f.Truncate(name, size) },
			func() api.Errno { return f.Sync(name) })
	}
	if e != api.OK {
		return nil, e
	}
	return &plainLog{f, name, records}, api.OK
}

// put is Append.
func (p *plainLog) put(records [][]byte) api.Errno {
	if len(records) == 0 {
		return api.OK
	}
	body := listed(records)
	if len(body) > 1<<20 {
		return api.ErrLong
	}
	e := inTurn(
		func() api.Errno { return p.f.Append(p.name, framed(body)) },
		func() api.Errno { return p.f.Sync(p.name) })
	if e != api.OK {
		return e
	}
	for _, one := range records {
		p.records = append(p.records, bytes.Clone(one))
	}
	return api.OK
}
