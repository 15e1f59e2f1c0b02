package record_test

import (
	"fmt"
	"slices"
	"strings"
	"testing"

	"wapentake/api"
	"wapentake/file"
	"wapentake/record"
)

// answers holds what a call answers against an error.
func answers(t *testing.T, what string, got, want api.Errno) {
	t.Helper()
	if got != want {
		t.Errorf("%s: %v, want %v", what, got, want)
	}
}

// tells holds what a log tells against records.
func tells(t *testing.T, what string, l *record.Log, want [][]byte) {
	t.Helper()
	are(t, what, l.All(), want)
	if l.Len() != len(want) {
		t.Errorf("%s: Len %d, want %d", what, l.Len(), len(want))
	}
}

// found is a disk's files as a text.
func found(f *file.Files) string {
	var b strings.Builder
	for _, name := range f.Names() {
		l, ok := f.Read(name)
		fmt.Fprintf(&b, "%q %v %v, ", name, l, ok)
	}
	return b.String()
}

// told is all that a disk tells of itself, and of what lasts on it.
func told(f *file.Files) string {
	return fmt.Sprintf("%sof which last %s%d steps, dead %v", found(f), found(f.Crash(nil)), f.Steps(), f.Dead())
}

// isAs holds a disk against another one, upon which the chapter's steps were taken one by one.
func isAs(t *testing.T, what string, got, want *file.Files) {
	t.Helper()
	if told(got) != told(want) {
		t.Errorf("%s: the disk has %.600s\nwant %.600s", what, told(got), told(want))
	}
}

// refused holds that a call which makes a log was refused by that error, and made none.
func refused(t *testing.T, what string, l *record.Log, got, want api.Errno) {
	t.Helper()
	if got != want || l != nil {
		t.Errorf("%s: %v, %v, want none, %v", what, l, got, want)
	}
}

// created is a new log.
func created(t *testing.T, f *file.Files, name string) *record.Log {
	t.Helper()
	l, e := record.Create(f, name)
	if e != api.OK || l == nil {
		t.Fatalf("Create %q: %v", name, e)
	}
	return l
}

// opened is the log of a file that is well.
func opened(t *testing.T, f *file.Files, name string) *record.Log {
	t.Helper()
	l, e := record.Open(f, name)
	if e != api.OK || l == nil {
		t.Fatalf("Open %q: %v", name, e)
	}
	return l
}

// holding is a disk with a file of these bytes, which last, and with another file.
func holding(name string, b []byte) *file.Files {
	f := file.New()
	f.Append("other", []byte{1, 2})
	f.Append(name, b)
	f.Sync(name)
	return f
}

// The chapter's examples.
func TestExamples(t *testing.T) {
	f := file.New()
	l, e := record.Create(f, "log")
	answers(t, "Create", e, api.OK)
	answers(t, "Append a", l.Append([]byte("a")), api.OK)
	answers(t, "Append b, none", l.Append([]byte("b"), nil), api.OK)
	tells(t, "All", l, rs("a", "b", ""))

	b, _ := f.Read("log")
	cut, turned := f.Clone(), f.Clone()
	cut.Truncate("log", len(b)-1)
	tells(t, "Open of that but its last byte", opened(t, cut, "log"), rs("a"))
	for bit := range 8 * len(b) {
		turned.Flip("log", bit)
		o, e := record.Open(turned, "log")
		refused(t, fmt.Sprintf("Open of that with bit %d turned", bit), o, e, api.ErrSpoilt)
		turned.Flip("log", bit)
	}
}

// P13.2: Create of no file: Append of no byte, and Sync.
func TestCreate(t *testing.T) {
	f, g := holding("x", []byte{9}), holding("x", []byte{9})
	l := created(t, f, "log")
	tells(t, "a new log", l, nil)
	g.Append("log", nil)
	g.Sync("log")
	isAs(t, "Create", f, g)
	tells(t, "a new log, opened", opened(t, f, "log"), nil)
}

// P13.2: Create over a file that is there, whatever it has: Remove, then as of none.
func TestCreateOver(t *testing.T) {
	for _, b := range [][]byte{nil, frame(t, rs("a", "b")), {1, 2, 3}, make([]byte, 50)} {
		f, g := holding("log", b), holding("log", b)
		for _, h := range []*file.Files{f, g} {
			h.Append("log", []byte{7}) // which does not last
		}
		tells(t, "a log over a file", created(t, f, "log"), nil)
		g.Remove("log")
		g.Append("log", nil)
		g.Sync("log")
		isAs(t, "Create over a file", f, g)
		if got, ok := f.Read("log"); !ok || len(got) != 0 {
			t.Errorf("over %v: the file is %v, %v", b, got, ok)
		}
	}
}

// P13.2: Create is refused by the first step that is.
func TestCreateRefused(t *testing.T) {
	l, e := record.Create(nil, "log")
	refused(t, "nil", l, e, api.ErrArg)
	l, e = record.Create(nil, "")
	refused(t, "nil, without a name", l, e, api.ErrArg)
	l, e = record.Create(&file.Files{}, "log")
	refused(t, "a disk that no call made", l, e, api.ErrState)
	long := strings.Repeat("n", api.MaxPart+1)
	for _, name := range []string{"", long} {
		f := holding("log", []byte{1})
		was := told(f)
		l, e = record.Create(f, name)
		refused(t, "a name that may not be", l, e, api.ErrArg)
		f.Fuse(0)
		l, e = record.Create(f, name)
		refused(t, "a name that may not be, at the last step", l, e, api.ErrArg)
		if told(f) != was {
			t.Errorf("name %q: %s, was %s", name, told(f), was)
		}
		f.Sync("log")
		l, e = record.Create(f, name)
		refused(t, "a name that may not be, on a dead disk", l, e, api.ErrDead)
	}
	tells(t, "the longest name", created(t, file.New(), long[1:]), nil)
}

// P13.2: the disk dies at each of Create's steps, over a file that is there and over none.
func TestCreateDies(t *testing.T) {
	whole := frame(t, rs("a", "b"))
	for _, there := range []bool{true, false} {
		name := map[bool]string{true: "log", false: "x"}[there]
		for fuse := range 4 {
			f, g := holding(name, whole), holding(name, whole)
			f.Fuse(fuse)
			g.Fuse(fuse)
			want := inTurn(
				func() api.Errno {
					if there {
						return g.Remove("log")
					}
					return api.OK
				},
				func() api.Errno { return g.Append("log", nil) },
				func() api.Errno { return g.Sync("log") })
			what := fmt.Sprintf("there %v, fuse %d", there, fuse)
			l, e := record.Create(f, "log")
			if answers(t, what, e, want); (e == api.OK) != (l != nil) {
				t.Errorf("%s: %v, and a log %v", what, e, l)
			}
			isAs(t, what, f, g)
		}
		f := holding(name, whole)
		f.Fuse(0)
		f.Sync(name)
		was := told(f)
		l, e := record.Create(f, "log")
		refused(t, "on a dead disk", l, e, api.ErrDead)
		if told(f) != was {
			t.Errorf("Create on a dead disk: %s, was %s", told(f), was)
		}
	}
}

// P13.2: Open of a file that is whole, an empty one too, takes no step.
func TestOpenWhole(t *testing.T) {
	for i, list := range append(someLists(), slices.Concat(someLists()...)) {
		for _, b := range [][]byte{frame(t, list), slices.Repeat(frame(t, list), 2)} {
			f := holding("log", b)
			was := told(f)
			l := opened(t, f, "log")
			tells(t, fmt.Sprintf("list %d", i), l, slices.Repeat(list, len(b)/len(frame(t, list))))
			if told(f) != was {
				t.Errorf("list %d: Open changed the disk", i)
			}
		}
	}
	f := holding("log", nil)
	was := told(f)
	tells(t, "an empty file", opened(t, f, "log"), nil)
	if told(f) != was {
		t.Errorf("an empty file: %s, was %s", told(f), was)
	}
	// What a whole file has need not last: Open takes no step for it, either.
	f.Append("log", frame(t, rs("a")))
	was = told(f)
	tells(t, "a file that may be lost", opened(t, f, "log"), rs("a"))
	if told(f) != was {
		t.Errorf("a file that may be lost: %s, was %s", told(f), was)
	}
}

// P13.2: Open of a torn file: Truncate to the whole frames, and Sync; at each step at which the disk dies, too.
func TestOpenTorn(t *testing.T) {
	b, ends, counts, records := threeFrames(t)
	for n := range b {
		if slices.Contains(ends, n) {
			continue
		}
		whole := 0
		for ends[whole+1] < n {
			whole++
		}
		for fuse := -1; fuse < 3; fuse++ {
			f, g := holding("log", b[:n]), holding("log", b[:n])
			f.Fuse(fuse)
			g.Fuse(fuse)
			want := inTurn(
				func() api.Errno { return g.Truncate("log", ends[whole]) },
				func() api.Errno { return g.Sync("log") })
			what := fmt.Sprintf("%d of %d bytes, fuse %d", n, len(b), fuse)
			l, e := record.Open(f, "log")
			isAs(t, what, f, g)
			if want != api.OK {
				refused(t, what, l, e, want)
				tells(t, what+", behind a crash", opened(t, f.Crash(nil), "log"), records[:counts[whole]])
				continue
			}
			answers(t, what, e, api.OK)
			tells(t, what, l, records[:counts[whole]])
		}
	}
}

// P13.2: Open makes all last that it leaves, also where it did not yet.
func TestOpenTornLasts(t *testing.T) {
	f := file.New()
	f.Append("log", append(frame(t, rs("a")), 1, 2, 3))
	tells(t, "torn", opened(t, f, "log"), rs("a"))
	tells(t, "torn, behind a crash", opened(t, f.Crash(nil), "log"), rs("a"))
	if f.Steps() != 3 {
		t.Errorf("%d steps", f.Steps())
	}
}

// P13.2: what Open refuses, and by which error where several could be.
func TestOpenRefused(t *testing.T) {
	dead := func(f *file.Files) *file.Files {
		f.Fuse(0)
		f.Append("other", nil)
		return f
	}
	wrong := framed([]byte{2, 0})
	for _, c := range []struct {
		what, name string
		f          *file.Files
		want       api.Errno
	}{
		{"nil", "log", nil, api.ErrArg},
		{"nil, no name", "", nil, api.ErrArg},
		{"a dead disk, torn", "log", dead(holding("log", []byte{1})), api.ErrDead},
		{"a dead disk, whole", "log", dead(holding("log", nil)), api.ErrDead},
		{"a dead disk, spoilt", "log", dead(holding("log", wrong)), api.ErrDead},
		{"a dead disk, no file", "log", dead(holding("x", nil)), api.ErrDead},
		{"no file", "log", holding("x", nil), api.ErrNone},
		{"no file on an empty disk", "log", file.New(), api.ErrNone},
		{"no file on a disk that no call made", "log", &file.Files{}, api.ErrNone},
		{"no name", "", holding("log", nil), api.ErrNone},
		{"a name that is too long", strings.Repeat("n", api.MaxPart+1), holding("log", nil), api.ErrNone},
		{"spoilt", "log", holding("log", wrong), api.ErrSpoilt},
		{"spoilt, behind whole ones", "log", holding("log", append(frame(t, rs("a")), wrong...)), api.ErrSpoilt},
		{"spoilt, and torn", "log", holding("log", append(slices.Clone(wrong), 1)), api.ErrSpoilt},
		{"a length that is too long", "log", holding("log", headed(api.MaxBody+1)), api.ErrSpoilt},
	} {
		if c.f == nil {
			l, e := record.Open(c.f, c.name)
			refused(t, c.what, l, e, c.want)
			continue
		}
		was := told(c.f)
		l, e := record.Open(c.f, c.name)
		refused(t, c.what, l, e, c.want)
		c.f.Fuse(0)
		l, e = record.Open(c.f, c.name)
		refused(t, c.what+", ahead of the last step", l, e, c.want)
		if told(c.f) != was {
			t.Errorf("%s: %s, was %s", c.what, told(c.f), was)
		}
	}
}

// P13.3: Append writes one frame and makes it last; All and Len tell its records behind the others.
func TestAppend(t *testing.T) {
	f, g := file.New(), file.New()
	l := created(t, f, "log")
	g.Append("log", nil)
	g.Sync("log")
	var all [][]byte
	for i, list := range someLists() {
		answers(t, fmt.Sprintf("list %d", i), l.Append(list...), api.OK)
		if len(list) > 0 {
			g.Append("log", framed(listed(list)))
			g.Sync("log")
			all = append(all, list...)
		}
		isAs(t, fmt.Sprintf("list %d", i), f, g)
		tells(t, fmt.Sprintf("list %d", i), l, all)
		tells(t, fmt.Sprintf("list %d, opened", i), opened(t, f, "log"), all)
	}
	// An opened log goes on behind what it has, a torn one too.
	b, _ := f.Read("log")
	f.Append("log", []byte{1, 2, 3})
	l = opened(t, f, "log")
	answers(t, "behind an Open", l.Append([]byte("z"), nil), api.OK)
	tells(t, "behind an Open", l, slices.Concat(all, rs("z", "")))
	if got, _ := f.Read("log"); !slices.Equal(got, append(b, frame(t, rs("z", ""))...)) {
		t.Errorf("behind an Open: %d bytes, were %d", len(got), len(b))
	}
}

// P13.3: Append of no records is OK, and does nothing, on a dead disk too.
func TestAppendNone(t *testing.T) {
	f := file.New()
	l := created(t, f, "log")
	answers(t, "Append", l.Append([]byte("a")), api.OK)
	for range 2 {
		was := told(f)
		answers(t, "none", l.Append(), api.OK)
		answers(t, "nil", l.Append(nil...), api.OK)
		answers(t, "an empty list", l.Append([][]byte{}...), api.OK)
		if told(f) != was {
			t.Errorf("Append of none: %s, was %s", told(f), was)
		}
		tells(t, "Append of none", l, rs("a"))
		f.Fuse(0)
		f.Append("log", nil)
	}
}

// P13.3: records for which no frame has room are refused ahead of all steps, on a dead disk too; the log goes on.
func TestAppendTooLong(t *testing.T) {
	f := file.New()
	l := created(t, f, "log")
	answers(t, "Append", l.Append([]byte("a")), api.OK)
	wrong := [][][]byte{
		{sized(api.MaxBody + 1)},
		{sized(api.MaxBody - 3)},
		{nil, sized(api.MaxBody - 4)},
		{sized(api.MaxBody / 2), {1}, sized(api.MaxBody / 2)},
		make([][]byte, api.MaxBody-2),
	}
	for i, list := range wrong {
		f.Fuse(0)
		was := told(f)
		answers(t, fmt.Sprintf("list %d", i), l.Append(list...), api.ErrLong)
		if told(f) != was {
			t.Errorf("list %d: the disk changed", i)
		}
		tells(t, fmt.Sprintf("list %d", i), l, rs("a"))
	}
	f.Fuse(-1)
	answers(t, "behind those", l.Append([]byte("b")), api.OK)
	answers(t, "as many bytes as may be", l.Append(sized(api.MaxBody-4)), api.OK)
	want := append(rs("a", "b"), sized(api.MaxBody-4))
	tells(t, "behind those", l, want)
	tells(t, "behind those, opened", opened(t, f, "log"), want)
	f.Fuse(0)
	f.Sync("log")
	for i, list := range wrong {
		answers(t, fmt.Sprintf("list %d on a dead disk", i), l.Append(list...), api.ErrLong)
	}
	tells(t, "on a dead disk", l, want)
}

// P13.3: the disk dies at each of Append's steps: the log tells what it told, and takes nothing more.
func TestAppendDies(t *testing.T) {
	for fuse := range 2 {
		f, g := file.New(), file.New()
		l := created(t, f, "log")
		g.Append("log", nil)
		g.Sync("log")
		answers(t, "Append", l.Append([]byte("a"), []byte("b")), api.OK)
		g.Append("log", framed(listed(rs("a", "b"))))
		g.Sync("log")
		f.Fuse(fuse)
		g.Fuse(fuse)
		what := fmt.Sprintf("dead behind %d steps", fuse)
		answers(t, what, l.Append([]byte("c"), nil), api.ErrDead)
		inTurn(
			func() api.Errno { return g.Append("log", framed(listed(rs("c", "")))) },
			func() api.Errno { return g.Sync("log") })
		isAs(t, what, f, g)
		tells(t, what, l, rs("a", "b"))
		for range 3 {
			answers(t, what+", again", l.Append([]byte("d")), api.ErrDead)
			isAs(t, what+", again", f, g)
			tells(t, what+", again", l, rs("a", "b"))
		}
		answers(t, what+", of none", l.Append(), api.OK)
		o, e := record.Open(f, "log")
		refused(t, what+", Open", o, e, api.ErrDead)
	}
}

// P13.3: an Append is OK only if its records last: the bytes of the other ones may be lost.
func TestAppendLasts(t *testing.T) {
	f := file.New()
	l := created(t, f, "log")
	for i := range 20 {
		answers(t, "Append", l.Append([]byte{byte(i)}, nil), api.OK)
		tells(t, "behind a crash", opened(t, f.Crash(nil), "log"), l.All())
	}
	if l.Len() != 40 || f.Steps() != 42 {
		t.Errorf("%d records by %d steps", l.Len(), f.Steps())
	}
}

// Logs of two files on one disk do not meet.
func TestTwoLogs(t *testing.T) {
	f := file.New()
	a, b := created(t, f, "a"), created(t, f, "b")
	answers(t, "Append", a.Append([]byte("1")), api.OK)
	answers(t, "Append", b.Append([]byte("2"), []byte("3")), api.OK)
	answers(t, "Append", a.Append([]byte("4")), api.OK)
	tells(t, "a", a, rs("1", "4"))
	tells(t, "b", b, rs("2", "3"))
	tells(t, "a, opened", opened(t, f, "a"), rs("1", "4"))
	tells(t, "b, opened", opened(t, f, "b"), rs("2", "3"))
	b = created(t, f, "b")
	tells(t, "a", a, rs("1", "4"))
	tells(t, "b, created anew", b, nil)
}

// R7: a log that no call made answers ErrState, and tells nothing.
func TestNoLog(t *testing.T) {
	var none *record.Log
	for _, l := range []*record.Log{none, {}, new(record.Log)} {
		answers(t, "Append", l.Append([]byte("a")), api.ErrState)
		answers(t, "Append of none", l.Append(), api.ErrState)
		answers(t, "Append of nil", l.Append(nil), api.ErrState)
		answers(t, "Append of what is too long", l.Append(sized(api.MaxBody+1)), api.ErrState)
		if all := l.All(); len(all) != 0 || l.Len() != 0 {
			t.Errorf("All %v, Len %d", all, l.Len())
		}
	}
}
