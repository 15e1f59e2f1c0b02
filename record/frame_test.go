package record_test

import (
	"bytes"
	"fmt"
	"math/rand"
	"slices"
	"testing"

	"wapentake/api"
	"wapentake/record"
)

// rs is records of these texts.
func rs(texts ...string) [][]byte {
	var l [][]byte
	for _, s := range texts {
		l = append(l, []byte(s))
	}
	return l
}

// sized is a record of n bytes, in which no short run comes again soon.
func sized(n int) []byte {
	b := make([]byte, n)
	x := uint32(n) + 1
	for i := range b {
		x = x*1664525 + 1013904223
		b[i] = byte(x >> 24)
	}
	return b
}

// are holds records against each other; nil and an empty list are one.
func are(t *testing.T, what string, got, want [][]byte) {
	t.Helper()
	if !slices.EqualFunc(got, want, bytes.Equal) {
		t.Errorf("%s: %.200q, want %.200q", what, got, want)
	}
}

// scans holds what Scan answers where all is well against what it should be.
func scans(t *testing.T, what string, b []byte, size int, want [][]byte) {
	t.Helper()
	got, n, e := record.Scan(b)
	if n != size || e != api.OK {
		t.Errorf("%s: %d bytes, %v, want %d, ok", what, n, e, size)
	}
	are(t, what, got, want)
}

// spoilt holds that Scan answers ErrSpoilt, and nothing else.
func spoilt(t *testing.T, what string, b []byte) {
	t.Helper()
	if got, n, e := record.Scan(b); e != api.ErrSpoilt || n != 0 || len(got) != 0 {
		t.Errorf("%s: %.200q, %d bytes, %v", what, got, n, e)
	}
}

// frame is Frame of records for which there is room.
func frame(t *testing.T, records [][]byte) []byte {
	t.Helper()
	b, e := record.Frame(records)
	if e != api.OK {
		t.Fatalf("Frame of %d records: %v", len(records), e)
	}
	return b
}

// someLists is lists of records at the edges of what their numbers take.
func someLists() [][][]byte {
	return [][][]byte{
		nil,
		{},
		{nil},
		{{}},
		{nil, {}, nil},
		rs("a"),
		rs("a", "", "bcd", "a"),
		{{0}, {255}, {128, 0}},
		make([][]byte, 127),
		make([][]byte, 128),
		{sized(127), sized(128), sized(16383), sized(16384)},
		{framed(listed(rs("a record that is a frame")))},
	}
}

// P13.1: Frame, byte for byte.
func TestFrame(t *testing.T) {
	if got := frame(t, rs("a")); !bytes.Equal(got[8:len(got)-4], []byte{1, 1, 'a'}) {
		t.Errorf("the body of a frame of a: %v", got)
	}
	for i, l := range someLists() {
		if got, want := frame(t, l), framed(listed(l)); !bytes.Equal(got, want) {
			t.Errorf("list %d: %.200v, want %.200v", i, got, want)
		}
	}
}

// P13.1: a frame has room for MaxBody bytes of numbers and records, and not for one more.
func TestFrameFull(t *testing.T) {
	const most = api.MaxBody
	for _, c := range []struct {
		what    string
		records [][]byte
		bytes   int // of the body
	}{
		{"one record", [][]byte{sized(most - 4)}, most},
		{"one record, a byte less", [][]byte{sized(most - 5)}, most - 1},
		{"one record, a byte more", [][]byte{sized(most - 3)}, most + 1},
		{"one record of as many bytes as a body", [][]byte{sized(most)}, most + 4},
		{"one record of more than MaxBody", [][]byte{sized(most + 1)}, most + 5},
		{"two", [][]byte{sized(most / 2), sized(most/2 - 7)}, most},
		{"two, a byte more", [][]byte{sized(most / 2), sized(most/2 - 6)}, most + 1},
		{"one and one without bytes", [][]byte{sized(most - 5), nil}, most},
		{"one and two without bytes", [][]byte{sized(most - 5), nil, nil}, most + 1},
		{"without bytes", make([][]byte, most-3), most},
		{"without bytes, one more", make([][]byte, most-2), most + 1},
		{"one of more than MaxBody behind another", [][]byte{{1}, sized(most + 1), {2}}, most + 9},
	} {
		if n := len(listed(c.records)); n != c.bytes {
			t.Fatalf("%s: a body of %d bytes, not %d: the row is wrong", c.what, n, c.bytes)
		}
		b, e := record.Frame(c.records)
		if c.bytes > most {
			if e != api.ErrLong || len(b) != 0 {
				t.Errorf("%s: %d bytes, %v", c.what, len(b), e)
			}
			continue
		}
		if e != api.OK || !bytes.Equal(b, framed(listed(c.records))) {
			t.Errorf("%s: %d bytes, %v", c.what, len(b), e)
		}
		scans(t, c.what, b, len(b), c.records)
	}
}

// P13.1: what is far too long is refused, however many records there are.
func TestFrameFarTooLong(t *testing.T) {
	for _, l := range [][][]byte{
		slices.Repeat([][]byte{sized(api.MaxBody)}, 2000),
		make([][]byte, 1<<22),
		{make([]byte, 1<<26)},
	} {
		if b, e := record.Frame(l); e != api.ErrLong || len(b) != 0 {
			t.Errorf("%d records: %d bytes, %v", len(l), len(b), e)
		}
	}
}

// P13.1: Scan tells the records of all frames, in order, and all their bytes.
func TestScan(t *testing.T) {
	scans(t, "nil", nil, 0, nil)
	scans(t, "no bytes", []byte{}, 0, nil)
	var all []byte
	var records [][]byte
	for i, l := range someLists() {
		b := frame(t, l)
		scans(t, fmt.Sprintf("list %d", i), b, len(b), l)
		all = append(all, b...)
		records = append(records, l...)
		scans(t, fmt.Sprintf("lists up to %d", i), all, len(all), records)
	}
}

// threeFrames is frames of one list each, how many bytes the first so many have, and how many records.
func threeFrames(t *testing.T) (b []byte, ends, counts []int, records [][]byte) {
	ends, counts = []int{0}, []int{0}
	for _, l := range [][][]byte{rs("a", ""), nil, rs("bc", "d", "efg")} {
		b = append(b, frame(t, l)...)
		records = append(records, l...)
		ends = append(ends, len(b))
		counts = append(counts, len(records))
	}
	return b, ends, counts, records
}

// P13.1: of each beginning Scan tells the whole frames; what is behind them is torn.
func TestScanTorn(t *testing.T) {
	b, ends, counts, records := threeFrames(t)
	for n := range len(b) + 1 {
		whole := 0
		for whole+1 < len(ends) && ends[whole+1] <= n {
			whole++
		}
		scans(t, fmt.Sprintf("the first %d bytes", n), b[:n], ends[whole], records[:counts[whole]])
	}
	// Fewer than 8 bytes are torn, whatever they are; so is a beginning whose length is right, whatever its body is.
	for n := range 8 {
		scans(t, fmt.Sprintf("%d bytes of no frame", n), append(slices.Clone(b), bytes.Repeat([]byte{9}, n)...), len(b), records)
	}
	scans(t, "a body of no list, a byte short", append(slices.Clone(b), framed([]byte{9, 9, 9})[:14]...), len(b), records)
	scans(t, "the length of a full body", headed(api.MaxBody), 0, nil)
	scans(t, "a full body but its last byte", append(headed(api.MaxBody), make([]byte, api.MaxBody+3)...), 0, nil)
}

// P13.1: a bit that is turned anywhere in a whole frame is ErrSpoilt, behind and ahead of whole ones, and of torn ones too.
func TestScanTurned(t *testing.T) {
	b, ends, _, records := threeFrames(t)
	tail := framed([]byte{1, 1, 'x'})
	for more := range tail {
		c := append(slices.Clone(b), tail[:more]...)
		for bit := range 8 * len(c) {
			c[bit/8] ^= 1 << (bit % 8)
			what := fmt.Sprintf("%d torn bytes, bit %d turned", more, bit)
			// In what is torn a turned bit is told in the length alone, once the length's sum is there.
			if bit/8 < len(b) || more >= 8 && bit/8 < len(b)+8 {
				spoilt(t, what, c)
			} else {
				scans(t, what, c, len(b), records)
			}
			c[bit/8] ^= 1 << (bit % 8)
		}
	}
	for _, end := range ends[1:] {
		for _, at := range []int{end - 1, end - 5} { // a sum's, a body's
			c := slices.Clone(b[:end])
			c[at] ^= 64
			spoilt(t, fmt.Sprintf("byte %d of %d turned", at, end), c)
		}
	}
}

// P13.1: frames that are right, with bodies that are not just a list.
func TestScanWrongBodies(t *testing.T) {
	good, _, _, _ := threeFrames(t)
	for what, body := range map[string][]byte{
		"nothing":                                {},
		"none, and a byte":                       {0, 0},
		"a number too low":                       {1, 1, 'a', 1, 'b'},
		"a number too low, of bytes none":        {1, 0, 0},
		"a number too high":                      {2, 1, 'a'},
		"a number of no records":                 {1},
		"a number far too high":                  {128, 128, 128, 128, 128, 32},
		"a number too high for a number":         {129, 128, 128, 128, 128, 32},
		"a number of seven digits":               {128, 128, 128, 128, 128, 128, 1},
		"a number without end":                   {128},
		"a number not in its shortest form":      {129, 0, 1, 'a'},
		"none, not in its shortest form":         {128, 0},
		"a length not in its shortest form":      {1, 129, 0, 'a'},
		"a length of none not in its shortest":   {1, 128, 0},
		"a record that is too long":              {1, 2, 'a'},
		"a second record that is too long":       {2, 1, 'a', 2, 'b'},
		"a record of more than MaxBody":          {1, 129, 128, 64, 'a'},
		"a record of MaxNumber":                  {1, 128, 128, 128, 128, 128, 32, 'a'},
		"a length without end":                   {1, 128},
		"a byte left":                            {1, 1, 'a', 0},
		"a list left":                            {1, 1, 'a', 1, 1, 'a'},
		"a full body, not a list":                make([]byte, api.MaxBody),
		"a full body whose record has one more":  append([]byte{1, 253, 255, 63}, make([]byte, api.MaxBody-4)...),
		"a full body whose record has one fewer": append([]byte{1, 251, 255, 63}, make([]byte, api.MaxBody-4)...),
	} {
		b := framed(body)
		spoilt(t, what, b)
		spoilt(t, what+", behind whole ones", append(slices.Clone(good), b...))
		spoilt(t, what+", ahead of whole ones", append(slices.Clone(b), good...))
		spoilt(t, what+", ahead of a torn one", append(slices.Clone(b), good[:5]...))
	}
	full := append([]byte{1, 252, 255, 63}, make([]byte, api.MaxBody-4)...)
	scans(t, "a full body", framed(full), len(full)+12, [][]byte{full[4:]})
}

// P13.1: a frame that says more bytes than a body may have is ErrSpoilt, not torn.
func TestScanTooLong(t *testing.T) {
	good, _, _, _ := threeFrames(t)
	for _, n := range []uint32{api.MaxBody + 1, 1 << 31, 1<<32 - 1} {
		for _, b := range [][]byte{headed(n), append(headed(n), 1, 2, 3)} {
			spoilt(t, fmt.Sprint("a length of ", n), b)
			spoilt(t, fmt.Sprint("a length behind whole ones of ", n), append(slices.Clone(good), b...))
		}
	}
	body := append([]byte{1, 253, 255, 63}, make([]byte, api.MaxBody-3)...) // a list, in a frame that is whole, but too long
	spoilt(t, "a frame of one byte more", framed(body))
}

// asPlain holds what Scan answers against the plain one, and that Frame writes what was a body's list.
func asPlain(t *testing.T, b []byte) {
	t.Helper()
	got, n, e := record.Scan(b)
	want, size, wrong := plainScan(b)
	if n != size || e != wrong || !slices.EqualFunc(got, want, bytes.Equal) {
		t.Fatalf("%.200v: %.200q, %d, %v, want %.200q, %d, %v", b, got, n, e, want, size, wrong)
	}
}

// bodyAsPlain holds what is made of a frame around a body against the plain one: Frame writes it, or it is ErrSpoilt.
func bodyAsPlain(t *testing.T, body []byte) {
	t.Helper()
	b := framed(body)
	asPlain(t, b)
	if got, _, e := record.Scan(b); e == api.OK {
		if again := frame(t, got); !bytes.Equal(again, b) {
			t.Fatalf("%v is read as %q, and written again as %v", body, got, again)
		}
	}
}

// P13.1: all bodies of up to two bytes, and drawn ones of bytes that meet the edges of numbers.
func TestBodies(t *testing.T) {
	bodyAsPlain(t, nil)
	for i := range 256 {
		bodyAsPlain(t, []byte{byte(i)})
		for j := range 256 {
			bodyAsPlain(t, []byte{byte(i), byte(j)})
		}
	}
	d := rand.New(rand.NewSource(1))
	lists := 0
	for range 100000 {
		b := make([]byte, d.Intn(9))
		for i := range b {
			b[i] = []byte{0, 1, 1, 2, 3, 128, 129, byte(d.Intn(256))}[d.Intn(8)]
		}
		bodyAsPlain(t, b)
		if _, ok := plainList(b); ok {
			lists++
		}
	}
	if lists < 1000 {
		t.Errorf("%d lists: the bodies tell little", lists)
	}
}

// P13.1: drawn frames, cut and turned.
func TestFramesDrawn(t *testing.T) {
	d := rand.New(rand.NewSource(2))
	for range 3000 {
		var b []byte
		for range d.Intn(5) {
			b = append(b, frame(t, recordsDrawn(d))...)
		}
		asPlain(t, b)
		if len(b) > 0 && d.Intn(2) == 0 {
			b[d.Intn(len(b))] ^= 1 << d.Intn(8)
		}
		asPlain(t, b)
		asPlain(t, b[:d.Intn(len(b)+1)])
	}
}

// recordsDrawn is a few records, which may be none, or without bytes.
func recordsDrawn(d *rand.Rand) [][]byte {
	var l [][]byte
	for range d.Intn(4) {
		b := make([]byte, d.Intn(6))
		d.Read(b)
		l = append(l, b)
	}
	return l
}

// No bytes make Scan panic, and all that the chapter says holds of it.
func FuzzScan(f *testing.F) {
	b, _ := record.Frame(rs("a", "", "bc"))
	f.Add(b)
	f.Add(append(b, b[:9]...))
	f.Add([]byte{1, 1, 'a'})
	f.Add([]byte{128, 128, 128, 128, 128, 32})
	f.Fuzz(func(t *testing.T, b []byte) {
		asPlain(t, b)
		if len(b) <= api.MaxBody {
			bodyAsPlain(t, b)
		}
	})
}
