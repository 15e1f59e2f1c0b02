package msg_test

import (
	"fmt"
	"hash/crc32"
	"math"
	"reflect"
	"slices"
	"strings"
	"testing"

	"wapentake/api"
	"wapentake/codec"
	"wapentake/entry"
	"wapentake/msg"
)

// table is the chapter's table of the Kinds and their fields.
func table() map[int]string {
	return map[int]string{
		api.MsgPrepare:  "Ballot Slot",
		api.MsgPromise:  "Ballot Slot Votes",
		api.MsgAccept:   "Ballot Slot Value",
		api.MsgAccepted: "Ballot Slot",
		api.MsgNack:     "Ballot",
		api.MsgChosen:   "Slot Value",
		api.MsgBeat:     "Ballot Slot Time",
		api.MsgGrant:    "Ballot Slot Time",
		api.MsgFetch:    "Slot",
		api.MsgImage:    "Slot Image",
		api.MsgCall:     "Number Value",
		api.MsgAsk:      "Number Value",
		api.MsgReply:    "Number Verdict",
		api.MsgAway:     "Number Slot",
	}
}

// kinds is the Kinds there are, rising.
func kinds() []int {
	var l []int
	for kind := range table() {
		l = append(l, kind)
	}
	slices.Sort(l)
	return l
}

// all is the names of all fields that a Kind may name.
func all() []string {
	return strings.Fields("Ballot Slot Time Value Votes Image Number Verdict")
}

// named is the fields that a Kind names, in the order of their bytes.
func named(kind int) []string { return strings.Fields(table()[kind]) }

// brief is x as a text that can be read, however much x has.
func brief(x any) string { return fmt.Sprintf("%.500s", fmt.Sprintf("%+v", x)) }

// field is a field of a message.
func field(m *api.Message, name string) reflect.Value {
	return reflect.ValueOf(m).Elem().FieldByName(name)
}

// with is m with one field more.
func with(m api.Message, name string, value any) api.Message {
	field(&m, name).Set(reflect.ValueOf(value))
	return m
}

// bare is a message of a Kind, with all else zero.
func bare(kind int) api.Message { return api.Message{Kind: kind} }

// full is a message of a Kind whose fields have ordinary values, none of them zero.
func full(kind int) api.Message {
	m := api.Message{Kind: kind, From: 3, To: 114}
	for _, name := range named(kind) {
		m = with(m, name, ordinary(name))
	}
	return m
}

// ordinary is a value for a field, not zero, and one that may be.
func ordinary(name string) any {
	switch name {
	case "Ballot":
		return 300
	case "Slot":
		return 70000
	case "Time":
		return 5
	case "Number":
		return 129
	case "Value":
		return land()
	case "Votes":
		return []api.Vote{{Slot: 0, Ballot: 1, Value: open("c")}, {Slot: 128, Ballot: 300, Value: land()}, {Slot: 129}}
	case "Image":
		return []byte{1, 4, 0, 255}
	}
	return log()
}

// open is a request, as land is, and log a verdict.
func open(name string) api.Request { return api.Request{Kind: api.Open, Name: name} }

func land() api.Request {
	return api.Request{Kind: api.Land, Session: 300, Seq: 2, Base: 7, Ref: "main", Changes: []api.Change{{Path: "a/b", Digest: 1 << 63}, {Path: "c", Gone: true}}}
}

func log() api.Verdict {
	c := api.Commit{Rev: 300, Base: 1, Ref: "m", Changes: []api.Change{{Path: "a", Gone: true}, {Path: "b", Digest: 9}}}
	return api.Verdict{Code: api.LogIs, Commits: []api.Commit{c, {Rev: 301, Base: 300, Changes: []api.Change{{Path: "b"}}}}}
}

// isAddress tells whether an address is one, by the chapter's words.
func isAddress(n int) bool { return n >= 0 && n <= 14 || n >= 100 && n <= 199 }

// isNumber tells whether a number may be.
func isNumber(n int) bool { return n >= 0 && n <= 1<<40 }

// votesMayBe tells whether Votes may be.
func votesMayBe(l []api.Vote) bool {
	for i, v := range l {
		if !isNumber(v.Slot) || !isNumber(v.Ballot) || entry.Check(v.Value) != api.OK || i > 0 && l[i-1].Slot >= v.Slot {
			return false
		}
	}
	return len(l) <= 4096
}

// fieldMayBe tells whether a field that is named may be what it is.
func fieldMayBe(v reflect.Value) bool {
	switch x := v.Interface().(type) {
	case int:
		return isNumber(x)
	case api.Request:
		return entry.Check(x) == api.OK
	case []api.Vote:
		return votesMayBe(x)
	case []byte:
		return len(x) <= api.MaxBody/2
	case api.Verdict:
		_, e := entry.EncodeVerdict(x)
		return e == api.OK
	}
	panic("no such field")
}

// isZero tells whether all of v is zero, where an empty list is as nil.
func isZero(v reflect.Value) bool { return alike(v, reflect.Zero(v.Type())) }

// mayBe tells whether a message may be, by the chapter's words.
func mayBe(m api.Message) bool {
	if _, ok := table()[m.Kind]; !ok || !isAddress(m.From) || !isAddress(m.To) {
		return false
	}
	for _, name := range all() {
		v := field(&m, name)
		if slices.Contains(named(m.Kind), name) && !fieldMayBe(v) || !slices.Contains(named(m.Kind), name) && !isZero(v) {
			return false
		}
	}
	return true
}

// piece is a part of a body: a number, or bytes that are read by another chapter's words.
type piece struct {
	what string
	num  bool
	b    []byte
}

// row is the pieces of a body, from the left.
type row []piece

// plainNumber is a number's bytes by chapter 1's words: digits of 7 bits, the lowest first.
func plainNumber(n int) []byte {
	var b []byte
	for ; n > 127; n /= 128 {
		b = append(b, byte(n%128+128))
	}
	return append(b, byte(n))
}

func (r *row) number(what string, n int) { *r = append(*r, piece{what, true, plainNumber(n)}) }

func (r *row) raw(what string, b []byte) { *r = append(*r, piece{what: what, b: b}) }

func (r *row) value(v api.Request) {
	b, _ := entry.Encode(v)
	r.raw("Value", b)
}

// plainRow is the pieces of the body of a message that may be, by the chapter's words.
func plainRow(m api.Message) row {
	var r row
	r.number("Kind", m.Kind)
	r.number("From", m.From)
	r.number("To", m.To)
	for _, name := range named(m.Kind) {
		switch x := field(&m, name).Interface().(type) {
		case int:
			r.number(name, x)
		case api.Request:
			r.value(x)
		case []api.Vote:
			r.number("how many Votes", len(x))
			for _, v := range x {
				r.number("a Vote's Slot", v.Slot)
				r.number("a Vote's Ballot", v.Ballot)
				r.value(v.Value)
			}
		case []byte:
			r.number("an Image's length", len(x))
			r.raw("Image", x)
		case api.Verdict:
			b, _ := entry.EncodeVerdict(x)
			r.raw("Verdict", b)
		}
	}
	return r
}

// bytes is the pieces one behind the other.
func (r row) bytes() []byte {
	var b []byte
	for _, p := range r {
		b = append(b, p.b...)
	}
	return b
}

// having is the bytes with others in the place of one piece.
func (r row) having(i int, b ...byte) []byte {
	return slices.Concat(r[:i].bytes(), b, r[i+1:].bytes())
}

// high appends a sum, or a length, its highest byte first.
func high(b []byte, x uint32) []byte {
	return append(b, byte(x>>24), byte(x>>16), byte(x>>8), byte(x))
}

// plainFrame is a body's frame by chapter 1's words.
func plainFrame(body []byte) []byte {
	b := high(nil, uint32(len(body)))
	b = high(b, crc32.ChecksumIEEE(b))
	b = append(b, body...)
	return high(b, crc32.ChecksumIEEE(body))
}

// glass reads a body by the chapters' words. What it fails by first stays.
type glass struct {
	rest []byte
	e    api.Errno
}

func (g *glass) fail(e api.Errno) {
	if g.e == api.OK {
		g.e = e
	}
}

func (g *glass) take(n int) []byte {
	if g.e == api.OK && n > len(g.rest) {
		g.fail(api.ErrShort)
	}
	if g.e != api.OK {
		return nil
	}
	b := g.rest[:n]
	g.rest = g.rest[n:]
	return b
}

func (g *glass) num(most int) int {
	n := 0
	for i := range 6 {
		b := g.take(1)
		if g.e != api.OK {
			return 0
		}
		n += int(b[0]%128) << (7 * i)
		if b[0] < 128 {
			if i > 0 && b[0] == 0 || n > most {
				g.fail(api.ErrForm)
				return 0
			}
			return n
		}
	}
	g.fail(api.ErrForm)
	return 0
}

// entered is what take reads by chapter 9's words.
func entered[T any](g *glass, take func(*codec.Reader) T) T {
	var none T
	if g.e != api.OK {
		return none
	}
	r := codec.NewReader(g.rest)
	x := take(r)
	g.e, g.rest = r.Fail(), g.rest[len(g.rest)-r.Left():]
	return x
}

// field reads one of that type.
func (g *glass) field(v reflect.Value) {
	switch v.Interface().(type) {
	case int:
		v.SetInt(int64(g.num(1 << 40)))
	case api.Request:
		v.Set(reflect.ValueOf(entered(g, entry.Take)))
	case []api.Vote:
		var l []api.Vote
		for i, n := 0, g.num(4096); i < n && g.e == api.OK; i++ {
			x := api.Vote{Slot: g.num(1 << 40)}
			x.Ballot = g.num(1 << 40)
			x.Value = entered(g, entry.Take)
			l = append(l, x)
		}
		v.Set(reflect.ValueOf(l))
	case []byte:
		n := g.num(1 << 40)
		if n > api.MaxBody/2 {
			g.fail(api.ErrLong)
		}
		v.SetBytes(slices.Clone(g.take(n)))
	case api.Verdict:
		v.Set(reflect.ValueOf(entered(g, entry.Heard)))
	}
}

// plainRead is what a body says by the chapter's words, or what is wrong with it.
func plainRead(body []byte) (api.Message, api.Errno) {
	g := &glass{rest: body}
	var m api.Message
	m.Kind = g.num(14)
	if m.Kind == 0 {
		g.fail(api.ErrForm)
	}
	m.From, m.To = g.num(1<<40), g.num(1<<40)
	for _, name := range named(m.Kind) {
		g.field(field(&m, name))
	}
	if g.e == api.OK && len(g.rest) > 0 {
		g.fail(api.ErrLong)
	}
	if g.e == api.OK && !mayBe(m) {
		g.fail(api.ErrForm)
	}
	if g.e != api.OK {
		return api.Message{}, g.e
	}
	return m, api.OK
}

// plainDecode is what bytes say by the chapters' words, or what is wrong with them.
func plainDecode(b []byte) (api.Message, api.Errno) {
	if len(b) < 8 {
		return api.Message{}, api.ErrShort
	}
	if !slices.Equal(high(nil, crc32.ChecksumIEEE(b[:4])), b[4:8]) {
		return api.Message{}, api.ErrSum
	}
	n := int(b[0])<<24 + int(b[1])<<16 + int(b[2])<<8 + int(b[3])
	if n > api.MaxBody {
		return api.Message{}, api.ErrLong
	}
	if len(b) < n+12 {
		return api.Message{}, api.ErrShort
	}
	if !slices.Equal(high(nil, crc32.ChecksumIEEE(b[8:8+n])), b[8+n:12+n]) {
		return api.Message{}, api.ErrSum
	}
	if len(b) > n+12 {
		return api.Message{}, api.ErrLong
	}
	return plainRead(b[8 : 8+n])
}

// alike tells whether two have the same in each field, where an empty list is as nil.
func alike(a, b reflect.Value) bool {
	switch a.Kind() {
	case reflect.Struct:
		for i := range a.NumField() {
			if !alike(a.Field(i), b.Field(i)) {
				return false
			}
		}
		return true
	case reflect.Slice:
		if a.Len() != b.Len() {
			return false
		}
		if x, ok := a.Interface().([]byte); ok {
			return slices.Equal(x, b.Bytes())
		}
		for i := range a.Len() {
			if !alike(a.Index(i), b.Index(i)) {
				return false
			}
		}
		return true
	}
	return a.Equal(b)
}

// same tells whether two messages have the same in each field.
func same(a, b api.Message) bool { return alike(reflect.ValueOf(a), reflect.ValueOf(b)) }

// encodes holds what Check and Encode say of m against the chapter's words, and that it is decoded again; it tells the bytes.
func encodes(t *testing.T, m api.Message) []byte {
	t.Helper()
	want, err := []byte(nil), api.ErrArg
	check := api.ErrArg
	if mayBe(m) {
		check, err = api.OK, api.OK
		if body := plainRow(m).bytes(); len(body) > api.MaxBody {
			err = api.ErrLong
		} else {
			want = plainFrame(body)
		}
	}
	if e := msg.Check(m); e != check {
		t.Fatalf("Check of %s: %v, want %v", brief(m), e, check)
	}
	b, e := msg.Encode(m)
	if e != err || !slices.Equal(b, want) {
		t.Fatalf("Encode of %s: %s, %v; want %s, %v", brief(m), brief(b), e, brief(want), err)
	}
	if e == api.OK {
		if back, e := msg.Decode(b); e != api.OK || !same(back, m) {
			t.Fatalf("Decode of Encode of %s: %s, %v", brief(m), brief(back), e)
		}
	}
	return b
}

// decodes holds what Decode says of b against the chapters' words, and that it is encoded again; it tells the error.
func decodes(t *testing.T, b []byte) api.Errno {
	t.Helper()
	want, err := plainDecode(b)
	m, e := msg.Decode(b)
	if e != err || !same(m, want) {
		t.Fatalf("Decode of %s: %s, %v; want %s, %v", brief(b), brief(m), e, brief(want), err)
	}
	if e != api.OK {
		return e
	}
	if again, e := msg.Encode(m); e != api.OK || !slices.Equal(again, b) {
		t.Fatalf("Encode of what Decode told of %s: %s, %v", brief(b), brief(again), e)
	}
	return e
}

// takes holds that m may be, and has bytes.
func takes(t *testing.T, what string, m api.Message) {
	t.Helper()
	if encodes(t, m); msg.Check(m) != api.OK {
		t.Errorf("%s is refused: %s", what, brief(m))
	}
}

// refuses holds that m may not be.
func refuses(t *testing.T, what string, m api.Message) {
	t.Helper()
	if b := encodes(t, m); msg.Check(m) != api.ErrArg || len(b) != 0 {
		t.Errorf("%s is taken: %s", what, brief(m))
	}
}

// fails holds that bytes are not decoded, and by what.
func fails(t *testing.T, what string, want api.Errno, b ...byte) {
	t.Helper()
	if e := decodes(t, b); e != want {
		t.Errorf("%s: %v, want %v; of %s", what, e, want, brief(b))
	}
}

// spoilt holds that a right frame of that body is not decoded, and by what.
func spoilt(t *testing.T, what string, want api.Errno, body ...byte) {
	t.Helper()
	fails(t, what, want, plainFrame(body)...)
}

// badNumbers and goodNumbers are numbers one beyond the limits and far beyond, and those at them.
func badNumbers() []int { return []int{-1, math.MinInt, api.MaxNumber + 1, math.MaxInt} }

func goodNumbers() []int { return []int{0, 1, 127, 128, 16384, api.MaxNumber - 1, api.MaxNumber} }
