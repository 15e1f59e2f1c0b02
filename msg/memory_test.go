package msg_test

import (
	"bytes"
	"reflect"
	"slices"
	"testing"
	"unsafe"

	"wapentake/api"
	"wapentake/msg"
)

// room is how many more of them stand in the spare room of a list that deep made.
const room = 3

// deepValue puts x into new memory, its lists and texts too, with more in the spare room of each list.
func deepValue(x reflect.Value) {
	switch x.Kind() {
	case reflect.String:
		b := []byte(x.String())
		x.SetString(unsafe.String(unsafe.SliceData(b), len(b)))
	case reflect.Struct:
		for i := range x.NumField() {
			deepValue(x.Field(i))
		}
	case reflect.Slice:
		n := x.Len()
		l := reflect.MakeSlice(x.Type(), n+room, n+room)
		reflect.Copy(l, x)
		for i := range n + room {
			if i >= n {
				spare(l.Index(i))
			}
			deepValue(l.Index(i))
		}
		x.Set(l.Slice(0, n))
	}
}

// spare makes x what stands in spare room.
func spare(x reflect.Value) {
	switch x.Interface().(type) {
	case byte:
		x.SetUint(13)
	case api.Vote:
		x.Set(reflect.ValueOf(api.Vote{Slot: 13, Ballot: -13}))
	case api.Change:
		x.Set(reflect.ValueOf(api.Change{Path: "spare", Digest: 13}))
	case api.Commit:
		x.Set(reflect.ValueOf(api.Commit{Rev: 13, Ref: "spare"}))
	default:
		panic("no such list")
	}
}

// deep is m in new memory, with more in the spare room of its lists.
func deep(m api.Message) api.Message {
	deepValue(reflect.ValueOf(&m).Elem())
	return m
}

// roomLeft tells whether the spare room of all lists is as deep made it.
func roomLeft(x reflect.Value) bool {
	ok := true
	switch x.Kind() {
	case reflect.Struct:
		for i := range x.NumField() {
			ok = ok && roomLeft(x.Field(i))
		}
	case reflect.Slice:
		n := x.Len()
		if x.Cap() != n+room {
			return false
		}
		for i := range n {
			ok = ok && roomLeft(x.Index(i))
		}
		want := reflect.New(x.Type().Elem()).Elem()
		spare(want)
		for i := range room {
			ok = ok && alike(x.Slice(0, n+room).Index(n+i), want)
		}
	}
	return ok
}

// spoil writes over all lists in x, their spare room too. (Not over texts: short ones may stand where nobody writes.)
func spoil(x reflect.Value) {
	switch x.Kind() {
	case reflect.Struct:
		for i := range x.NumField() {
			spoil(x.Field(i))
		}
	case reflect.Slice:
		for i := range x.Len() {
			spoil(x.Index(i))
		}
		l := x.Slice(0, x.Cap())
		for i := range l.Len() {
			l.Index(i).SetZero()
		}
	}
}

// spoilTexts writes over all texts of what deep made.
func spoilTexts(x reflect.Value) {
	switch x.Kind() {
	case reflect.String:
		s := x.String()
		for i := range len(s) {
			unsafe.Slice(unsafe.StringData(s), len(s))[i] = '!'
		}
	case reflect.Struct:
		for i := range x.NumField() {
			spoilTexts(x.Field(i))
		}
	case reflect.Slice:
		for i := range x.Len() {
			spoilTexts(x.Index(i))
		}
	}
}

// run is a piece of memory that a list or a text has.
type run struct{ from, to uintptr }

// memory is all runs of x, a list's spare room among them. Texts of one byte stand in a table of the language's own, which nobody writes.
func memory(x reflect.Value) []run {
	var l []run
	note := func(p unsafe.Pointer, size uintptr) {
		if size > 1 {
			l = append(l, run{uintptr(p), uintptr(p) + size})
		}
	}
	switch x.Kind() {
	case reflect.String:
		note(unsafe.Pointer(unsafe.StringData(x.String())), uintptr(x.Len()))
	case reflect.Struct:
		for i := range x.NumField() {
			l = append(l, memory(x.Field(i))...)
		}
	case reflect.Slice:
		note(x.UnsafePointer(), uintptr(x.Cap())*x.Type().Elem().Size())
		for i := range x.Len() {
			l = append(l, memory(x.Index(i))...)
		}
	}
	return l
}

// apart holds that no two of these share memory, nor two lists of one of them.
func apart(t *testing.T, what string, l ...any) {
	t.Helper()
	var runs []run
	for _, x := range l {
		runs = append(runs, memory(reflect.ValueOf(x))...)
	}
	slices.SortFunc(runs, func(a, b run) int { return int(a.from) - int(b.from) })
	for i, r := range runs {
		if i > 0 && r.from < runs[i-1].to {
			t.Fatalf("%s: they share memory", what)
		}
	}
}

// many is messages that may be and such as may not be, with lists of all sorts.
func many() []api.Message {
	l := some()
	for _, kind := range kinds() {
		for _, wrong := range []api.Message{with(full(kind), "From", 15), with(full(kind), "Kind", 15)} {
			l = append(l, wrong)
		}
		for _, name := range all() {
			l = append(l, with(full(kind), name, ordinary(name)))
		}
	}
	l = append(l, promise(voting(9, 4, api.Vote{Slot: 4, Value: land()})...), promise(voting(9, 4, api.Vote{Slot: 3, Value: land()})...), promise(votes(4097)...))
	for _, v := range append(goodVerdicts(), badVerdicts()...) {
		l = append(l, with(full(api.MsgReply), "Verdict", v))
	}
	for _, v := range append(goodValues(), badValues()...) {
		l = append(l, with(full(api.MsgCall), "Value", v), promise(api.Vote{Slot: 1, Value: v}, api.Vote{Slot: 2, Value: v}))
	}
	return append(l, with(full(api.MsgImage), "Image", make([]byte, api.MaxBody/2)), with(full(api.MsgImage), "Image", make([]byte, api.MaxBody/2+1)))
}

// R4: a message that is handed in stays as it was, spare room too.
func TestMessageStays(t *testing.T) {
	for _, want := range many() {
		m := deep(want)
		msg.Check(m)
		msg.Encode(m)
		if !same(m, want) || !roomLeft(reflect.ValueOf(m)) {
			t.Fatalf("Check or Encode wrote into %s: it is %s", brief(want), brief(m))
		}
	}
}

// R4: bytes that were written of a message are in memory of their own: who changes the one does not change the other.
func TestBytesAreNew(t *testing.T) {
	for _, want := range many() {
		m := deep(want)
		b, e := msg.Encode(m)
		if e != api.OK {
			continue
		}
		first := bytes.Clone(b)
		other, _ := msg.Encode(m)
		apart(t, "a message, its bytes, and those again", m, b, other)
		spoilTexts(reflect.ValueOf(m))
		spoil(reflect.ValueOf(&m).Elem())
		if !slices.Equal(b, first) || !slices.Equal(other, first) {
			t.Fatalf("who wrote over %s changed its bytes", brief(want))
		}
		clear(other[:cap(other)])
		if again, _ := msg.Encode(want); !slices.Equal(b, first) || !slices.Equal(again, first) {
			t.Fatalf("who wrote over the bytes of %s changed others", brief(want))
		}
	}
}

// R4: bytes that are handed in stay as they were, spare room too, and are not kept.
func TestBytesStay(t *testing.T) {
	rows := [][]byte{nil, {0}, make([]byte, 8), plainFrame(nil), plainFrame([]byte{15}), plainFrame([]byte{5, 15, 2, 3}), plainFrame(promised(5000))}
	for _, m := range some() {
		b := plainFrame(plainRow(m).bytes())
		rows = append(rows, b, append(bytes.Clone(b), 0), b[:len(b)-1])
	}
	for _, want := range rows {
		b := append(append(make([]byte, 0, len(want)+room), want...), 13, 13, 13)[:len(want)]
		m, e := msg.Decode(b)
		if !slices.Equal(b, want) || !slices.Equal(b[len(b):cap(b)], []byte{13, 13, 13}) {
			t.Fatalf("Decode wrote into %v: they are %v", want, b[:cap(b)])
		}
		if e != api.OK {
			continue
		}
		apart(t, "bytes, and the message", b, m)
		was := deep(m)
		for i := range b[:cap(b)] {
			b[:cap(b)][i] = '?'
		}
		if !same(m, was) {
			t.Fatalf("who wrote over bytes changed the message: %s, was %s", brief(m), brief(was))
		}
	}
}

// R4: a message that was read is in memory of its own, each of its lists in one of theirs, spare room too.
func TestMessageIsNew(t *testing.T) {
	for _, want := range many() {
		b, e := msg.Encode(want)
		if e != api.OK {
			continue
		}
		one, _ := msg.Decode(b)
		other, _ := msg.Decode(b)
		apart(t, "a message read twice", one, other, b)
		for i := range one.Votes { // who writes behind a list writes into no other one
			l := one.Votes[i].Value.Changes
			spoil(reflect.ValueOf([][]api.Change{l[len(l):cap(l)]}))
		}
		for _, c := range one.Verdict.Commits {
			spoil(reflect.ValueOf([][]api.Change{c.Changes[len(c.Changes):cap(c.Changes)]}))
		}
		if !same(one, want) {
			t.Fatalf("who wrote behind the lists of %s changed it: %s", brief(want), brief(one))
		}
		spoil(reflect.ValueOf(&one).Elem())
		if again, _ := msg.Decode(b); !same(other, want) || !same(again, want) {
			t.Fatalf("who wrote over one message of %v changed another: %s, %s", brief(b), brief(other), brief(again))
		}
	}
}

// R4: one list may stand in many Votes that are handed in; what is read of them stands apart.
func TestOneListInMany(t *testing.T) {
	v := land()
	m := promise(api.Vote{Slot: 1, Value: v}, api.Vote{Slot: 2, Value: v}, api.Vote{Slot: 3, Value: v})
	b := encodes(t, m)
	got, _ := msg.Decode(b)
	apart(t, "the Votes", got)
	got.Votes[0].Value.Changes[0] = api.Change{Path: "z"}
	if !same(promise(got.Votes[1:]...), promise(m.Votes[1:]...)) {
		t.Errorf("who wrote into one Vote changed another: %s", brief(got))
	}
}
