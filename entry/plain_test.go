package entry_test

import (
	"fmt"
	"reflect"
	"slices"
	"strings"
	"testing"

	"wapentake/api"
	"wapentake/codec"
	"wapentake/entry"
)

// side is one half of the package: requests, or verdicts.
type side[T any] struct {
	what   string
	first  string   // the field that says which others there are
	fields []string // those, in the order of their bytes
	encode func(T) ([]byte, api.Errno)
	decode func([]byte) (T, api.Errno)
	put    func(*codec.Writer, T)
	take   func(*codec.Reader) T
	same   func(a, b T) bool
}

// requests is the half of them, with the fields that the chapter names for each Kind.
func requests() side[api.Request] {
	return side[api.Request]{
		what:  "request",
		first: "Kind",
		fields: []string{
			api.Noop: "",
			api.Open: "Name",
			api.Land: "Session Seq Base Ref Changes",
			api.Head: "Session Seq",
			api.Read: "Session Seq Path",
			api.Log:  "Session Seq From Many",
			api.Add:  "Session Seq Member",
			api.Drop: "Session Seq Member",
		},
		encode: encodeRequest,
		decode: entry.Decode,
		put:    entry.Put,
		take:   entry.Take,
		same:   entry.Same,
	}
}

// verdicts is the half of them, with the fields that the chapter names for each Code.
func verdicts() side[api.Verdict] {
	return side[api.Verdict]{
		what:  "verdict",
		first: "Code",
		fields: []string{
			api.Nothing:  "",
			api.Opened:   "Session",
			api.Landed:   "Rev",
			api.Conflict: "Path Rev",
			api.Ahead:    "Rev",
			api.Bad:      "",
			api.Expired:  "",
			api.Stale:    "",
			api.HeadIs:   "Rev",
			api.Found:    "Path Digest Rev",
			api.Missing:  "Path",
			api.LogIs:    "Commits",
			api.Added:    "Member",
			api.Dropped:  "Member",
			api.Refused:  "Member",
		},
		encode: entry.EncodeVerdict,
		decode: entry.DecodeVerdict,
		put:    entry.Told,
		take:   entry.Heard,
		same:   entry.Alike,
	}
}

// encodeRequest is Encode, with an error that is none where Check says otherwise.
func encodeRequest(r api.Request) ([]byte, api.Errno) {
	b, e := entry.Encode(r)
	if f := entry.Check(r); f != e {
		return nil, -1
	}
	return b, e
}

// both runs a test of requests, and one of verdicts.
func both(t *testing.T, ofRequests func(*testing.T, side[api.Request]), ofVerdicts func(*testing.T, side[api.Verdict])) {
	t.Run("requests", func(t *testing.T) { ofRequests(t, requests()) })
	t.Run("verdicts", func(t *testing.T) { ofVerdicts(t, verdicts()) })
}

// brief is x as a text that can be read, however much x has.
func brief(x any) string { return fmt.Sprintf("%.400s", fmt.Sprintf("%+v", x)) }

// field is a field of what x points at.
func field(x any, name string) reflect.Value { return reflect.ValueOf(x).Elem().FieldByName(name) }

// named is the fields that the chapter names for a Kind, or a Code.
func (s side[T]) named(kind int) []string { return strings.Fields(s.fields[kind]) }

// all is the names of all fields but the first.
func (s side[T]) all() []string {
	var l []string
	for _, f := range reflect.VisibleFields(reflect.TypeFor[T]()) {
		if f.Name != s.first {
			l = append(l, f.Name)
		}
	}
	return l
}

// of is one of a Kind or a Code, with all else zero.
func (s side[T]) of(kind int) T {
	var x T
	field(&x, s.first).SetInt(int64(kind))
	return x
}

// with is x with one field more.
func with[T any](x T, name string, value any) T {
	field(&x, name).Set(reflect.ValueOf(value))
	return x
}

// isZero tells whether a field is zero, where an empty list is as nil.
func isZero(v reflect.Value) bool { return v.IsZero() || v.Kind() == reflect.Slice && v.Len() == 0 }

// number tells whether a number may be.
func number(n int) bool { return 0 <= n && n <= api.MaxNumber }

// changesMayBe tells whether Changes may be.
func changesMayBe(l []api.Change) bool {
	return len(l) <= 64 && !slices.ContainsFunc(l, func(c api.Change) bool {
		return len(c.Path) > 255 || c.Gone && c.Digest != 0
	})
}

// commitsMayBe tells whether Commits may be.
func commitsMayBe(l []api.Commit) bool {
	return len(l) <= api.MaxLog && !slices.ContainsFunc(l, func(c api.Commit) bool {
		return !number(c.Rev) || !number(c.Base) || len(c.Ref) > 255 || !changesMayBe(c.Changes)
	})
}

// mayBe tells whether x may be, by the chapter's words.
func (s side[T]) mayBe(x T) bool {
	kind := int(field(&x, s.first).Int())
	if kind < 0 || kind >= len(s.fields) {
		return false
	}
	for _, name := range s.all() {
		v := field(&x, name)
		if !slices.Contains(s.named(kind), name) {
			if !isZero(v) {
				return false
			}
			continue
		}
		ok := true
		switch y := v.Interface().(type) {
		case int:
			ok = number(y)
		case string:
			ok = len(y) <= 255
		case []api.Change:
			ok = changesMayBe(y)
		case []api.Commit:
			ok = commitsMayBe(y)
		}
		if !ok {
			return false
		}
	}
	return true
}

// plainNumber is a number's bytes behind b.
func plainNumber(b []byte, n int) []byte {
	for ; n >= 128; n /= 128 {
		b = append(b, byte(n%128+128))
	}
	return append(b, byte(n))
}

// plainText is a text's bytes behind b.
func plainText(b []byte, s string) []byte { return append(plainNumber(b, len(s)), s...) }

// plainWord is a word's bytes behind b.
func plainWord(b []byte, x uint64) []byte {
	for shift := 56; shift >= 0; shift -= 8 {
		b = append(b, byte(x>>shift))
	}
	return b
}

// plainChanges is the bytes of Changes behind b.
func plainChanges(b []byte, l []api.Change) []byte {
	b = plainNumber(b, len(l))
	for _, c := range l {
		b = plainText(b, c.Path)
		if c.Gone {
			b = append(b, 1)
		} else {
			b = plainWord(append(b, 0), c.Digest)
		}
	}
	return b
}

// plainBytes is the bytes of one that may be.
func (s side[T]) plainBytes(x T) []byte {
	kind := int(field(&x, s.first).Int())
	b := plainNumber(nil, kind)
	for _, name := range s.named(kind) {
		switch y := field(&x, name).Interface().(type) {
		case int:
			b = plainNumber(b, y)
		case string:
			b = plainText(b, y)
		case uint64:
			b = plainWord(b, y)
		case []api.Change:
			b = plainChanges(b, y)
		case []api.Commit:
			b = plainNumber(b, len(y))
			for _, c := range y {
				b = plainNumber(plainNumber(b, c.Rev), c.Base)
				b = plainChanges(plainText(b, c.Ref), c.Changes)
			}
		}
	}
	return b
}

// plainReader reads from the left, and keeps the first error.
type plainReader struct {
	b      []byte
	failed api.Errno
}

// fail keeps the first error.
func (r *plainReader) fail(e api.Errno) {
	if r.failed == api.OK {
		r.failed = e
	}
	r.b = nil
}

// some is the next n bytes; nothing where there are fewer.
func (r *plainReader) some(n int) []byte {
	if len(r.b) < n {
		r.fail(api.ErrShort)
	}
	if r.failed != api.OK {
		return make([]byte, n)
	}
	l := r.b[:n]
	r.b = r.b[n:]
	return l
}

// number reads one.
func (r *plainReader) number(most int) int {
	var digits []int
	for len(digits) < 6 {
		c := int(r.some(1)[0])
		digits = append(digits, c%128)
		if c < 128 {
			break
		}
		if len(digits) == 6 {
			r.fail(api.ErrForm)
		}
	}
	n := 0
	for _, d := range slices.Backward(digits) {
		n = n*128 + d
	}
	if len(digits) > 1 && digits[len(digits)-1] == 0 || n > most {
		r.fail(api.ErrForm)
	}
	if r.failed != api.OK {
		return 0
	}
	return n
}

// text reads one.
func (r *plainReader) text() string {
	n := r.number(api.MaxNumber)
	if n > 255 {
		r.fail(api.ErrLong)
		return ""
	}
	return string(r.some(n))
}

// word reads one.
func (r *plainReader) word() uint64 {
	var x uint64
	for _, c := range r.some(8) {
		x = x<<8 | uint64(c)
	}
	return x
}

// changes reads Changes.
func (r *plainReader) changes() []api.Change {
	var l []api.Change
	for range r.number(64) {
		c := api.Change{Path: r.text()}
		switch r.some(1)[0] {
		case 0:
			c.Digest = r.word()
		case 1:
			c.Gone = true
		default:
			r.fail(api.ErrForm)
		}
		l = append(l, c)
	}
	return l
}

// plainTake reads one by the chapter's words, within more bytes.
func (s side[T]) plainTake(r *plainReader) T {
	x := s.of(r.number(len(s.fields) - 1))
	for _, name := range s.named(int(field(&x, s.first).Int())) {
		v := field(&x, name)
		switch v.Interface().(type) {
		case int:
			v.SetInt(int64(r.number(api.MaxNumber)))
		case string:
			v.SetString(r.text())
		case uint64:
			v.SetUint(r.word())
		case []api.Change:
			v.Set(reflect.ValueOf(r.changes()))
		case []api.Commit:
			var l []api.Commit
			for range r.number(api.MaxLog) {
				c := api.Commit{Rev: r.number(api.MaxNumber), Base: r.number(api.MaxNumber), Ref: r.text()}
				c.Changes = r.changes()
				l = append(l, c)
			}
			v.Set(reflect.ValueOf(l))
		}
	}
	return x
}

// plainRead reads one by the chapter's words, and no more.
func (s side[T]) plainRead(b []byte) (T, api.Errno) {
	r := &plainReader{b: b}
	x := s.plainTake(r)
	if len(r.b) > 0 {
		r.fail(api.ErrLong)
	}
	if r.failed != api.OK {
		var none T
		return none, r.failed
	}
	return x, api.OK
}

// alike tells whether two have the same in each field, where an empty list is as nil: by reflection, since same is under test.
func alike(a, b reflect.Value) bool {
	switch a.Kind() {
	case reflect.Struct:
		for i := range a.NumField() {
			if !alike(a.Field(i), b.Field(i)) {
				return false
			}
		}
		return true
	case reflect.Slice:
		if a.Len() != b.Len() {
			return false
		}
		for i := range a.Len() {
			if !alike(a.Index(i), b.Index(i)) {
				return false
			}
		}
		return true
	}
	return a.Equal(b)
}

// is holds one against another.
func is[T any](t *testing.T, what string, got, want T) {
	t.Helper()
	if !alike(reflect.ValueOf(got), reflect.ValueOf(want)) {
		t.Errorf("%s: %s, want %s", what, brief(got), brief(want))
	}
}

// encodes holds what x is encoded as against the chapter's words, and that it is decoded again.
func (s side[T]) encodes(t *testing.T, x T) {
	t.Helper()
	b, e := s.encode(x)
	if !s.mayBe(x) {
		if e != api.ErrArg || len(b) != 0 {
			t.Errorf("%s %s: %v, %v; want none, ErrArg", s.what, brief(x), brief(b), e)
		}
		return
	}
	want := s.plainBytes(x)
	if e != api.OK || !slices.Equal(b, want) {
		t.Errorf("%s %s: %v, %v; want %v", s.what, brief(x), brief(b), e, brief(want))
		return
	}
	back, e := s.decode(b)
	is(t, "decoded again", back, x)
	if e != api.OK || !s.same(back, x) || !s.same(x, back) {
		t.Errorf("%s %s: decoded again %v, %v", s.what, brief(x), brief(back), e)
	}
}

// decodes holds what bytes are decoded as against the chapter's words, and that it is encoded again.
func (s side[T]) decodes(t *testing.T, b []byte) {
	t.Helper()
	want, err := s.plainRead(b)
	got, e := s.decode(b)
	if e != err {
		t.Errorf("%s of %v: %v, want %v", s.what, brief(b), e, err)
	}
	is(t, fmt.Sprintf("%s of %v", s.what, brief(b)), got, want)
	if e != api.OK {
		return
	}
	if !s.mayBe(got) {
		t.Errorf("%s of %v: %s may not be", s.what, brief(b), brief(got))
	}
	if again, e := s.encode(got); e != api.OK || !slices.Equal(again, b) {
		t.Errorf("%s of %v: encoded again %v, %v", s.what, brief(b), brief(again), e)
	}
}

// fails holds that bytes are not decoded, and by what.
func (s side[T]) fails(t *testing.T, want api.Errno, b ...byte) {
	t.Helper()
	var none T
	got, e := s.decode(b)
	if e != want {
		t.Errorf("%s of %v: %v, want %v", s.what, brief(b), e, want)
	}
	is(t, fmt.Sprintf("%s of %v", s.what, brief(b)), got, none)
	if _, err := s.plainRead(b); err != want {
		t.Errorf("the plain reading of %v is %v, want %v", brief(b), err, want)
	}
}
