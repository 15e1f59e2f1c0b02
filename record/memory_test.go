package record_test

import (
	"bytes"
	"slices"
	"testing"
	"unsafe"

	"wapentake/api"
	"wapentake/file"
	"wapentake/record"
)

// room is a list of what l has, with more in its spare room.
func room[T any](l []T, more T) []T {
	return append(append(make([]T, 0, len(l)+3), l...), more, more, more)[:len(l)]
}

// roomy is records with nines in their spare room, in a list that has one more in its spare room.
func roomy(texts ...string) [][]byte {
	var l [][]byte
	for _, s := range texts {
		l = append(l, room([]byte(s), 9))
	}
	return room(l, room([]byte("spare"), 9))
}

// spoil writes over records, and over their list, their spare room too.
func spoil(l [][]byte) {
	l = l[:cap(l)]
	for i, one := range l {
		one = one[:cap(one)]
		for j := range one {
			one[j] = 66
		}
		l[i] = []byte("spoilt")
	}
}

// stays holds that records that were handed in, of these texts, are as roomy made them.
func stays(t *testing.T, what string, l [][]byte, texts ...string) {
	t.Helper()
	want := roomy(texts...)
	if cap(l) < len(l)+3 {
		t.Fatalf("%s: the list has no spare room: the test is wrong", what)
	}
	l, want = l[:len(l)+3], want[:len(want)+3]
	for i := range l {
		if !bytes.Equal(l[i], want[i]) || !bytes.Equal(l[i][:len(l[i])+3], want[i][:len(want[i])+3]) {
			t.Errorf("%s: what was handed in is changed: %q, was %q", what, l[i][:cap(l[i])], want[i][:cap(want[i])])
		}
	}
}

// R4: Append leaves its records as they are, and does not keep them; nor does the disk.
func TestAppendKeepsNothing(t *testing.T) {
	f := file.New()
	l := created(t, f, "log")
	one := roomy("a", "", "bcd")
	answers(t, "Append", l.Append(one...), api.OK)
	answers(t, "Append again", l.Append(one[:1]...), api.OK)
	answers(t, "Append more", l.Append([]byte("e")), api.OK)
	stays(t, "Append", one, "a", "", "bcd")
	was := told(f)
	spoil(one)
	want := rs("a", "", "bcd", "a", "e")
	tells(t, "records that were written over", l, want)
	tells(t, "records that were written over, opened", opened(t, f, "log"), want)
	if told(f) != was {
		t.Errorf("the disk has what was handed in: %s, was %s", told(f), was)
	}
	// An Append that is refused keeps none, either.
	two := roomy("x", "y")
	f.Fuse(1)
	answers(t, "Append that dies", l.Append(two...), api.ErrDead)
	stays(t, "Append that dies", two, "x", "y")
	spoil(two)
	tells(t, "behind one that died", l, want)
}

// R4: one record that is handed in many times is many records.
func TestAppendOfOneRecord(t *testing.T) {
	f := file.New()
	l := created(t, f, "log")
	one := room([]byte("ab"), 9)
	answers(t, "Append", l.Append(one, one, one[:1]), api.OK)
	all := l.All()
	all[0][0] = 'x'
	are(t, "a record written over", all, rs("xb", "ab", "a"))
	tells(t, "the log", l, rs("ab", "ab", "a"))
}

// R4: Frame leaves its records as they are, and shares nothing with them.
func TestFrameKeepsNothing(t *testing.T) {
	l := roomy("a", "", "bcd")
	b := frame(t, l)
	stays(t, "Frame", l, "a", "", "bcd")
	want := bytes.Clone(b)
	spoil(l)
	if !bytes.Equal(b, want) {
		t.Errorf("a frame changed with its records: %v, was %v", b, want)
	}
	l = roomy("a", "", "bcd")
	b = b[:cap(b)]
	for i := range b {
		b[i] = 66
	}
	stays(t, "a frame that was written over", l, "a", "", "bcd")
	if !bytes.Equal(frame(t, l), want) {
		t.Errorf("a frame that was written over changed the next one")
	}
	long := [][]byte{room(sized(api.MaxBody), 9), room([]byte("a"), 9)}
	was := [][]byte{bytes.Clone(long[0][:len(long[0])+3]), bytes.Clone(long[1][:4])}
	record.Frame(long)
	are(t, "what is too long", [][]byte{long[0][:len(long[0])+3], long[1][:4]}, was)
}

// apart holds that records that were told share no memory, spare room too: each is written over as far as it goes, and read behind that.
func apart(t *testing.T, what string, l [][]byte) {
	t.Helper()
	for i := range l {
		l[i] = l[i][:cap(l[i])]
		for j := range l[i] {
			l[i][j] = byte(i)
		}
	}
	for i, one := range l {
		for _, b := range one {
			if b != byte(i) {
				t.Fatalf("%s: record %d is written over by another one", what, i)
			}
		}
	}
}

// R4: what Scan tells is new memory, and so is each record of it.
func TestScanIsNew(t *testing.T) {
	list := [][]byte{sized(3), nil, sized(8), sized(33), {1}, sized(64)}
	b := room(slices.Repeat(frame(t, list), 2), 9)
	b = append(b, b[:10]...)
	was := bytes.Clone(b[:cap(b)])
	one, n, e := record.Scan(b)
	two, _, _ := record.Scan(b)
	if !bytes.Equal(b[:cap(b)], was) || n != len(b)-10 || e != api.OK {
		t.Fatalf("Scan changed its bytes, or answers %d, %v", n, e)
	}
	apart(t, "Scan", one)
	_ = append(one, []byte("more"))
	if !bytes.Equal(b[:cap(b)], was) {
		t.Errorf("what Scan told shares its bytes")
	}
	b = b[:cap(b)]
	for i := range b {
		b[i] = 66
	}
	are(t, "Scan of bytes that were written over", two, slices.Repeat(list, 2))
}

// R4: what All tells is new memory, of a log that was appended to, and of one that was opened.
func TestAllIsNew(t *testing.T) {
	list := [][]byte{sized(3), nil, sized(8), sized(33), {1}, sized(64)}
	f := file.New()
	l := created(t, f, "log")
	answers(t, "Append", l.Append(list...), api.OK)
	answers(t, "Append", l.Append(list[0]), api.OK)
	want := append(slices.Clone(list), list[0])
	for what, l := range map[string]*record.Log{"appended": l, "opened": opened(t, f, "log")} {
		was := told(f)
		one, two := l.All(), l.All()
		apart(t, what, one)
		spoil(append(one, []byte("more")))
		spoil(one)
		tells(t, what+", written over", l, want)
		if told(f) != was {
			t.Errorf("%s: the disk changed with what was told", what)
		}
		g := f.Clone()
		h := opened(t, g, "log")
		are(t, what+", told twice", two, want)
		for range 9 {
			answers(t, what, h.Append([]byte("z")), api.OK)
		}
		are(t, what+", told twice, and more appended", two, want)
	}
}

// R4: what one log has is not what another one of the same file has.
func TestLogsShareNothing(t *testing.T) {
	for size := range 20 {
		f := file.New()
		l := created(t, f, "log")
		for i := range size {
			answers(t, "Append", l.Append([]byte{byte(i)}), api.OK)
		}
		was := l.All()
		g := f.Clone()
		a, b := opened(t, g, "log"), opened(t, g, "log")
		answers(t, "Append", a.Append([]byte("a")), api.OK)
		answers(t, "Append", b.Append([]byte("b")), api.OK)
		answers(t, "Append", l.Append([]byte("l")), api.OK)
		tells(t, "the first", a, append(slices.Clone(was), []byte("a")))
		tells(t, "the second", b, append(slices.Clone(was), []byte("b")))
		tells(t, "the file's", opened(t, g, "log"), append(slices.Clone(was), []byte("a"), []byte("b")))
		tells(t, "the one ahead of the clone", l, append(slices.Clone(was), []byte("l")))
	}
}

// R4: a name that is handed in is not kept.
func TestNameIsCopied(t *testing.T) {
	for _, open := range []bool{false, true} {
		f := file.New()
		memory := []byte("log")
		name := unsafe.String(unsafe.SliceData(memory), len(memory))
		l := created(t, f, name)
		if open {
			l = opened(t, f, name)
		}
		copy(memory, "xyz")
		answers(t, "Append", l.Append([]byte("a")), api.OK)
		if got := f.Names(); !slices.Equal(got, []string{"log"}) {
			t.Errorf("files %q", got)
		}
		tells(t, "the file", opened(t, f, "log"), rs("a"))
	}
}
