package entry_test

import (
	"reflect"
	"slices"
	"testing"
	"unsafe"

	"wapentake/api"
	"wapentake/codec"
	"wapentake/entry"
)

// deepChanges is Changes in new memory, with more of them in their spare room.
func deepChanges(l []api.Change) []api.Change {
	out := make([]api.Change, 0, len(l)+3)
	for _, c := range l {
		c.Path = loose(c.Path)
		out = append(out, c)
	}
	for i := range 3 {
		out[:cap(out)][len(out)+i] = spareChange()
	}
	return out
}

// spareChange stands in spare room.
func spareChange() api.Change { return api.Change{Path: "spare", Digest: 13} }

// spareCommit stands in spare room.
func spareCommit() api.Commit { return api.Commit{Rev: 13, Ref: "spare"} }

// loose is a text in new memory, which spoilText may write over.
func loose(s string) string {
	b := []byte(s)
	return unsafe.String(unsafe.SliceData(b), len(b))
}

// spoilText writes over a text that is in memory of its own.
func spoilText(s string) {
	for i := range unsafe.Slice(unsafe.StringData(s), len(s)) {
		unsafe.Slice(unsafe.StringData(s), len(s))[i] = '!'
	}
}

// deep is x in new memory, its texts too, with more in the spare room of its lists.
func deep[T any](x T) T {
	v := reflect.ValueOf(&x).Elem()
	for i := range v.NumField() {
		switch y := v.Field(i).Interface().(type) {
		case string:
			v.Field(i).SetString(loose(y))
		case []api.Change:
			v.Field(i).Set(reflect.ValueOf(deepChanges(y)))
		case []api.Commit:
			out := make([]api.Commit, 0, len(y)+3)
			for _, c := range y {
				out = append(out, deep(c))
			}
			for j := range 3 {
				out[:cap(out)][len(out)+j] = spareCommit()
			}
			v.Field(i).Set(reflect.ValueOf(out))
		}
	}
	return x
}

// spoil writes over all of the texts and the lists of x, spare room too.
func spoil[T any](x T) {
	v := reflect.ValueOf(x)
	for i := range v.NumField() {
		switch y := v.Field(i).Interface().(type) {
		case string:
			spoilText(y)
		case []api.Change:
			spoilChanges(y)
		case []api.Commit:
			for _, c := range y {
				spoil(c)
			}
			for j := range y[:cap(y)] {
				y[:cap(y)][j] = api.Commit{Rev: 11}
			}
		}
	}
}

// spoilChanges writes over Changes and their Paths, spare room too.
func spoilChanges(l []api.Change) {
	for _, c := range l {
		spoilText(c.Path)
	}
	for i := range l[:cap(l)] {
		l[:cap(l)][i] = api.Change{Digest: 11}
	}
}

// roomLeft holds that the spare room of what deep made is as it was.
func roomLeft[T any](t *testing.T, what string, x T) {
	t.Helper()
	v := reflect.ValueOf(x)
	for i := range v.NumField() {
		switch y := v.Field(i).Interface().(type) {
		case []api.Change:
			if room := y[len(y):cap(y)]; !slices.Equal(room, slices.Repeat([]api.Change{spareChange()}, 3)) {
				t.Errorf("%s: the spare room of Changes: %v", what, room)
			}
		case []api.Commit:
			for _, c := range y {
				roomLeft(t, what, c)
			}
			if room := y[len(y):cap(y)]; len(room) != 3 || room[0].Rev != 13 || room[1].Rev != 13 || room[2].Rev != 13 {
				t.Errorf("%s: the spare room of Commits: %v", what, room)
			}
		}
	}
}

// memory is all that x has, by the first byte of each list and text, spare room too, and how many bytes they are. Texts of one byte stand in a table of the language's own, which nobody writes.
func memory[T any](x T) map[uintptr]uintptr {
	all := map[uintptr]uintptr{}
	note := func(p unsafe.Pointer, size uintptr) {
		if size > 1 {
			all[uintptr(p)] = size
		}
	}
	var walk func(v reflect.Value)
	walk = func(v reflect.Value) {
		switch v.Kind() {
		case reflect.String:
			note(unsafe.Pointer(unsafe.StringData(v.String())), uintptr(v.Len()))
		case reflect.Slice:
			note(v.UnsafePointer(), uintptr(v.Cap())*v.Type().Elem().Size())
			for i := range v.Len() {
				walk(v.Index(i))
			}
		case reflect.Struct:
			for i := range v.NumField() {
				walk(v.Field(i))
			}
		}
	}
	walk(reflect.ValueOf(x))
	return all
}

// apart holds that two things share no memory.
func apart[T, U any](t *testing.T, what string, x T, y U) {
	t.Helper()
	others := memory(y)
	for p, n := range memory(x) {
		for q, m := range others {
			if p < q+m && q < p+n {
				t.Errorf("%s: they share memory", what)
				return
			}
		}
	}
}

// apartWithin holds that no two lists of x share memory.
func apartWithin[T any](t *testing.T, s side[T], x T) {
	t.Helper()
	b, _ := s.encode(x)
	got, _ := s.decode(b)
	v := reflect.ValueOf(got)
	for i := range v.NumField() {
		l, ok := v.Field(i).Interface().([]api.Commit)
		if !ok {
			continue
		}
		for j, c := range l {
			for _, d := range l[:j] {
				apart(t, "two Commits of a verdict", c, d)
			}
			spoilChanges(append(c.Changes, api.Change{}))
		}
	}
	if again, _ := s.decode(b); !s.same(again, x) {
		t.Errorf("who wrote behind Changes changed what is decoded later")
	}
}

// leaves holds that no call changes what it is handed, nor keeps it, nor tells of its memory.
func leaves[T any](t *testing.T, s side[T], want T) {
	t.Helper()
	x := deep(want)
	b, e := s.encode(x)
	w := codec.NewWriter()
	w.Num(7)
	s.put(w, x)
	s.same(x, x)
	is(t, "what was handed in", x, want)
	roomLeft(t, "what was handed in", x)
	apart(t, "encoded", x, b)
	all, _ := w.Done()
	is(t, "what Done told", x, want)
	spoil(x)
	if e == api.OK && !slices.Equal(b, s.plainBytes(want)) {
		t.Errorf("who wrote over the %s changed its bytes", s.what)
	}
	if again, _ := w.Done(); !slices.Equal(again, all) {
		t.Errorf("who wrote over the %s changed what the writer tells", s.what)
	}
	if e == api.OK {
		leavesBytes(t, s, want)
		apartWithin(t, s, want)
	}
}

// leavesBytes holds that who reads bytes leaves them, and that what is read is in memory of its own.
func leavesBytes[T any](t *testing.T, s side[T], want T) {
	t.Helper()
	plain := s.plainBytes(want)
	b := append(slices.Clone(plain), 13, 13, 13)[:len(plain)]
	got, _ := s.decode(b)
	r := codec.NewReader(b)
	taken := s.take(r)
	other, _ := s.decode(b)
	if !slices.Equal(b, plain) || !slices.Equal(b[len(b):len(b)+3], []byte{13, 13, 13}) {
		t.Errorf("who reads bytes changed them")
	}
	apart(t, "decoded, and its bytes", got, b)
	apart(t, "taken, and its bytes", taken, b)
	apart(t, "decoded twice", got, other)
	apart(t, "decoded and taken", got, taken)
	for i := range b[:cap(b)] {
		b[:cap(b)][i] = '?'
	}
	is(t, "who wrote over the bytes changed what was decoded", got, want)
	is(t, "who wrote over the bytes changed what was taken", taken, want)
	spoilLists(got)
	is(t, "who wrote over what was decoded changed another one", other, want)
	is(t, "who wrote over what was decoded changed what was taken", taken, want)
}

// spoilLists writes over the lists of x, spare room too, but not over its texts: short ones may stand where nobody writes.
func spoilLists[T any](x T) {
	v := reflect.ValueOf(x)
	for i := range v.NumField() {
		switch y := v.Field(i).Interface().(type) {
		case []api.Change:
			clear(y[:cap(y)])
		case []api.Commit:
			for _, c := range y {
				spoilLists(c)
			}
			clear(y[:cap(y)])
		}
	}
}

// allLeave is leaves of each Kind and Code, and of some that may not be.
func allLeave[T any](t *testing.T, s side[T]) {
	for kind := range s.fields {
		leaves(t, s, s.of(kind))
		leaves(t, s, s.full(kind))
		leaves(t, s, with(s.full(kind), s.first, -1))
		for _, name := range s.all() {
			x := s.of(kind)
			for i, value := range some(t, &x, name) {
				if i < 8 {
					leaves(t, s, with(x, name, value))
				}
			}
		}
	}
}

// R4: what is handed in stays as it was and is not kept, what is told is new memory.
func TestMemory(t *testing.T) {
	both(t, allLeave[api.Request], allLeave[api.Verdict])
}

// R4: one list may stand in many Commits that are handed in; what is decoded of them stands apart.
func TestOneListInMany(t *testing.T) {
	one := changes(5)
	v := api.Verdict{Code: api.LogIs, Commits: []api.Commit{{Rev: 1, Changes: one}, {Rev: 2, Changes: one}, {Rev: 3, Changes: one[1:]}, {Rev: 4, Changes: one[:2]}}}
	verdicts().encodes(t, v)
	b, _ := entry.EncodeVerdict(v)
	got, _ := entry.DecodeVerdict(b)
	for i := range got.Commits {
		for j := range i {
			apart(t, "Commits", got.Commits[i], got.Commits[j])
		}
	}
}

// R4: bytes that were told may be written over, spare room too.
func TestBytesAreNew(t *testing.T) {
	r := api.Request{Kind: api.Land, Ref: "m", Changes: changes(9)}
	want := requests().plainBytes(r)
	for range 3 {
		b, _ := entry.Encode(r)
		if !slices.Equal(b, want) {
			t.Fatalf("Encode: %v, want %v", b, want)
		}
		clear(b[:cap(b)])
	}
}

// R7: a writer and a reader that no call made, or that are nil, are left as they are, and tell nothing.
func TestNotMade(t *testing.T) {
	r, v := api.Request{Kind: api.Head, Session: 1}, api.Verdict{Code: api.Landed, Rev: 1}
	for _, w := range []*codec.Writer{nil, {}} {
		entry.Put(w, r)
		entry.Told(w, v)
		entry.Put(w, api.Request{Kind: -1})
		entry.Told(w, api.Verdict{Code: -1})
		if b, e := w.Done(); e != api.ErrState || len(b) != 0 {
			t.Errorf("a writer that is none: %v, %v", b, e)
		}
	}
	for _, in := range []*codec.Reader{nil, {}} {
		is(t, "Take of a reader that is none", entry.Take(in), api.Request{})
		is(t, "Heard of a reader that is none", entry.Heard(in), api.Verdict{})
		if e := in.Fail(); e != api.ErrState {
			t.Errorf("a reader that is none: %v", e)
		}
	}
}
