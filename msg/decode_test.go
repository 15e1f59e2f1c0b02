package msg_test

import (
	"bytes"
	"math"
	"slices"
	"strings"
	"testing"

	"wapentake/api"
	"wapentake/entry"
	"wapentake/msg"
)

// join is bytes one behind the other.
func join(l ...[]byte) []byte { return slices.Concat(l...) }

// some is messages that may be: of each Kind one with all of its fields, and one with none.
func some() []api.Message {
	var l []api.Message
	for _, kind := range kinds() {
		l = append(l, bare(kind), full(kind))
	}
	return l
}

// P11.1: no bytes, and every beginning of good ones, are too short; a byte behind them is too much.
func TestDecodeCuts(t *testing.T) {
	fails(t, "no bytes", api.ErrShort)
	fails(t, "an empty list", api.ErrShort, []byte{}...)
	for _, m := range some() {
		b := encodes(t, m)
		for i := range b {
			fails(t, "a beginning", api.ErrShort, b[:i]...)
		}
		for _, more := range [][]byte{{0}, {1}, {255}, make([]byte, 12), b[:7], b} {
			fails(t, "bytes behind", api.ErrLong, join(b, more)...)
		}
	}
}

// P11.1, P11.2: one bit turned, in each place, is ErrSum.
func TestDecodeTurned(t *testing.T) {
	for _, m := range some() {
		b := encodes(t, m)
		for i := range 8 * len(b) {
			b[i/8] ^= 1 << (i % 8)
			fails(t, "a bit turned", api.ErrSum, b...)
			b[i/8] ^= 1 << (i % 8)
		}
		b[8] ^= 1
		fails(t, "a bit turned, and the last byte gone", api.ErrShort, b[:len(b)-1]...)
	}
}

// P11.2: a bit turned in the longest bytes that there are, at the places where the parts meet.
func TestDecodeLongTurned(t *testing.T) {
	b := encodes(t, long(t, api.MaxBody))
	for _, i := range []int{0, 3, 4, 7, 8, 9, api.MaxBody / 2, api.MaxBody + 7, api.MaxBody + 8, len(b) - 1} {
		b[i] ^= 16
		fails(t, "a bit turned", api.ErrSum, b...)
		b[i] ^= 16
		fails(t, "a beginning", api.ErrShort, b[:i]...)
	}
	fails(t, "a byte behind", api.ErrLong, append(b, 0)...)
}

// P11.1: right frames of bodies that are none, of their beginnings, and with bytes behind.
func TestDecodeBodies(t *testing.T) {
	spoilt(t, "an empty body", api.ErrShort)
	for _, m := range some() {
		body := plainRow(m).bytes()
		for i := range body {
			spoilt(t, "a beginning", api.ErrShort, body[:i]...)
		}
		for _, more := range [][]byte{{0}, {1}, {128}, {255}, body} {
			spoilt(t, "bytes behind", api.ErrLong, join(body, more)...)
		}
	}
}

// P11.1: a Kind that is none, alone, ahead of what is wrong too, and in the place of a good one.
func TestDecodeNoSuchKind(t *testing.T) {
	for _, kind := range []int{0, 15, 16, 99, 127, 128, 257, 261, 1 << 32, api.MaxNumber} {
		b := plainNumber(kind)
		for _, more := range [][]byte{nil, {1, 2}, {1, 2, 3, 4, 5}, {128, 0}, {128}, {15, 99}, bytes.Repeat([]byte{255}, 9)} {
			spoilt(t, "a Kind that is none", api.ErrForm, join(b, more)...)
		}
		for _, m := range some() {
			spoilt(t, "a Kind that is none", api.ErrForm, plainRow(m).having(0, b...)...)
		}
	}
}

// P11.1: a number that is not written the shortest way, that is too great, or has too many digits, in each place; and one that is cut.
func TestDecodeNumbers(t *testing.T) {
	places := map[string]int{}
	for _, m := range some() {
		r := plainRow(m)
		for i, x := range r {
			if !x.num {
				continue
			}
			places[x.what]++
			digits := bytes.Clone(x.b)
			digits[len(digits)-1] |= 128
			spoilt(t, x.what+" with a 0 behind", api.ErrForm, r.having(i, join(digits, []byte{0})...)...)
			spoilt(t, x.what+" with two 0 behind", api.ErrForm, r.having(i, join(digits, []byte{128, 0})...)...)
			spoilt(t, x.what+" above MaxNumber", api.ErrForm, r.having(i, plainNumber(api.MaxNumber+1)...)...)
			spoilt(t, x.what+" of seven digits", api.ErrForm, r.having(i, 129, 128, 128, 128, 128, 128, 1)...)
			spoilt(t, x.what+" that goes on", api.ErrShort, join(r[:i].bytes(), []byte{129})...)
			spoilt(t, x.what+" that is not there", api.ErrShort, r[:i].bytes()...)
		}
	}
	for what, most := range map[string]int{"Kind": 28, "From": 28, "To": 28, "Ballot": 14, "Slot": 20, "Time": 4, "Number": 8, "how many Votes": 2, "a Vote's Slot": 3, "a Vote's Ballot": 3, "an Image's length": 2} {
		if places[what] != most {
			t.Errorf("%d places of %s", places[what], what)
		}
	}
}

// P11.1: addresses that are none are told only when all was read.
func TestDecodeAddresses(t *testing.T) {
	for _, m := range some() {
		r := plainRow(m)
		for _, n := range []int{15, 16, 99, 200, 300, api.MaxNumber} {
			for _, i := range []int{1, 2} {
				b := r.having(i, plainNumber(n)...)
				spoilt(t, "an address that is none", api.ErrForm, b...)
				spoilt(t, "an address that is none, and a byte behind", api.ErrLong, append(b, 0)...)
				spoilt(t, "an address that is none, and a byte short", api.ErrShort, b[:len(b)-1]...)
			}
		}
		for _, n := range []int{0, 14, 100, 199} {
			for _, i := range []int{1, 2} {
				spoilt(t, "an address", api.OK, r.having(i, plainNumber(n)...)...)
			}
		}
	}
}

// promised is the body of a MsgPromise, with how many Votes it says there are, and their bytes.
func promised(many int, votes ...byte) []byte {
	return join([]byte{2, 1, 2, 9, 3}, plainNumber(many), votes)
}

// P11.1: how many Votes there may be.
func TestDecodeManyVotes(t *testing.T) {
	all := func(n int) []byte { return plainRow(promise(votes(n)...)).bytes() }
	spoilt(t, "4096 Votes", api.OK, all(4096)...)
	spoilt(t, "4097 Votes", api.ErrForm, all(4097)...)
	spoilt(t, "4096 Votes, a byte short", api.ErrShort, all(4096)[:len(all(4096))-1]...)
	spoilt(t, "4096 Votes, a byte behind", api.ErrLong, append(all(4096), 0)...)
	for _, n := range []int{4097, 5000, 16384, 1 << 32, api.MaxNumber} {
		spoilt(t, "too many Votes", api.ErrForm, promised(n)...)
		spoilt(t, "too many Votes, and what is wrong behind", api.ErrForm, promised(n, 128, 0, 255)...)
		spoilt(t, "too many Votes, and some of them", api.ErrForm, promised(n, make([]byte, 20000)...)...)
	}
	for _, n := range []int{1, 2, 128, 4096} {
		spoilt(t, "no Votes where there should be", api.ErrShort, promised(n)...)
	}
}

// P11.1: Votes that may not be are told only when all was read.
func TestDecodeVotes(t *testing.T) {
	spoilt(t, "equal Slots", api.ErrForm, promised(2, 3, 0, 0, 3, 0, 0)...)
	spoilt(t, "falling Slots", api.ErrForm, promised(2, 3, 0, 0, 2, 0, 0)...)
	spoilt(t, "rising Slots", api.OK, promised(2, 3, 0, 0, 4, 0, 0)...)
	spoilt(t, "equal Slots, and a byte behind", api.ErrLong, promised(2, 3, 0, 0, 3, 0, 0, 0)...)
	spoilt(t, "equal Slots, and a byte short", api.ErrShort, promised(2, 3, 0, 0, 3, 0)...)
	spoilt(t, "falling Slots, and a Value that is wrong", api.ErrLong, promised(2, 3, 0, 0, 2, 0, 1, 128, 2)...)
	spoilt(t, "falling Slots, and a Ballot that is wrong", api.ErrForm, promised(2, 3, 0, 0, 2, 128, 0, 0)...)
}

// P11.1: an Image of more than MaxBody / 2 bytes, whether they are there or not.
func TestDecodeImages(t *testing.T) {
	of := func(n int, b ...byte) []byte { return join([]byte{10, 1, 2, 3}, plainNumber(n), b) }
	most := api.MaxBody / 2
	spoilt(t, "an Image", api.OK, of(most, make([]byte, most)...)...)
	spoilt(t, "an Image, a byte short", api.ErrShort, of(most, make([]byte, most-1)...)...)
	spoilt(t, "an Image, a byte behind", api.ErrLong, of(most, make([]byte, most+1)...)...)
	for _, n := range []int{most + 1, most + 2, api.MaxBody - 100} {
		spoilt(t, "a long Image", api.ErrLong, of(n, make([]byte, n)...)...)
	}
	for _, n := range []int{most + 1, api.MaxBody, api.MaxBody + 1, api.MaxNumber} {
		spoilt(t, "a long Image that is not there", api.ErrLong, of(n)...)
		spoilt(t, "a long Image of which some is there", api.ErrLong, of(n, 1, 2, 3)...)
	}
}

// wrongValues is bytes that are no request's, with the reader's error of each.
func wrongValues() map[api.Errno][][]byte {
	name := join(plainNumber(256), []byte(strings.Repeat("a", 256)))
	return map[api.Errno][][]byte{
		api.ErrForm: {{8}, {127}, {128, 0}, {3, 128, 0, 1}, {3, 1, 130, 0}, {2, 1, 1, 1, 0, 65}, {2, 1, 1, 1, 0, 1, 0, 2}, {1, 129, 0, 97}, join([]byte{6, 1, 1}, plainNumber(api.MaxNumber+1))},
		api.ErrLong: {join([]byte{1}, name), join([]byte{4, 1, 1}, name), join([]byte{2, 1, 1, 1}, name), {1, 128, 2}},
	}
}

// P11.1: a Value whose bytes are wrong, in each place that there is for one; a Kind's own comes ahead of what is wrong behind it.
func TestDecodeValues(t *testing.T) {
	for want, l := range wrongValues() {
		for _, b := range l {
			for _, kind := range []byte{api.MsgAccept, api.MsgChosen, api.MsgCall, api.MsgAsk} {
				ahead := []byte{kind, 1, 2, 3}
				if kind == api.MsgAccept {
					ahead = append(ahead, 4)
				}
				spoilt(t, "a Value", want, join(ahead, b)...)
				spoilt(t, "a Value, and more", want, join(ahead, b, []byte{128, 0})...)
				ahead[1] = 15
				spoilt(t, "a Value behind an address that is none", want, join(ahead, b)...)
			}
			spoilt(t, "the first Vote's Value", want, promised(2, join([]byte{3, 0}, b, []byte{2, 0, 0})...)...)
			spoilt(t, "the second Vote's Value", want, promised(2, join([]byte{3, 0, 0, 4, 0}, b)...)...)
			spoilt(t, "the first Vote's Value of two that is wrong", want, promised(2, join([]byte{3, 0}, b, []byte{128, 0, 0, 8})...)...)
		}
	}
}

// P11.1: a Verdict whose bytes are wrong.
func TestDecodeVerdicts(t *testing.T) {
	path := join(plainNumber(256), []byte(strings.Repeat("a", 256)))
	for want, l := range map[api.Errno][][]byte{
		api.ErrForm:  {{15}, {127}, {133, 0}, {2, 128, 0}, {11, 33}, {11, 1, 0, 0, 0, 65}, {11, 1, 0, 0, 0, 1, 0, 2}, join([]byte{12}, plainNumber(api.MaxNumber+1))},
		api.ErrLong:  {join([]byte{10}, path), join([]byte{3}, path, []byte{128, 0}), join([]byte{11, 1, 0, 0}, path)},
		api.ErrShort: {{2}, {9, 1, 97, 0}, {11, 32}, {10, 3, 97}},
	} {
		for _, b := range l {
			spoilt(t, "a Verdict", want, join([]byte{13, 1, 100, 3}, b)...)
			spoilt(t, "a Verdict behind an address that is none", want, join([]byte{13, 1, 99, 3}, b)...)
			if want != api.ErrShort {
				spoilt(t, "a Verdict, and more", want, join([]byte{13, 1, 100, 3}, b, []byte{0, 0, 0})...)
			}
		}
	}
}

// P11.1: of several errors, those of the frame come first, then what stands behind it.
func TestFirstOfTheFrame(t *testing.T) {
	good := plainRow(full(api.MsgAccept)).bytes()
	none, form, short, left, refused := []byte{15, 1, 2}, []byte{5, 1, 2, 128, 0}, []byte{5, 1}, []byte{5, 1, 2, 3, 0}, []byte{5, 15, 2, 3}
	for _, body := range [][]byte{nil, good, none, form, short, left, refused, promised(5000), {10, 1, 2, 3, 255, 255, 255, 1}} {
		f := plainFrame(body)
		turned := bytes.Clone(f)
		turned[len(turned)-1] ^= 1
		fails(t, "a wrong sum", api.ErrSum, turned...)
		fails(t, "a wrong sum, and a byte behind", api.ErrSum, append(turned, 0)...)
		fails(t, "a byte short", api.ErrShort, f[:len(f)-1]...)
		fails(t, "a wrong sum, and a byte short", api.ErrShort, turned[:len(turned)-1]...)
		fails(t, "a byte behind", api.ErrLong, append(bytes.Clone(f), 0)...)
		fails(t, "a frame behind", api.ErrLong, join(f, f)...)
		f[5] ^= 1
		fails(t, "a wrong sum of the length", api.ErrSum, f...)
		fails(t, "a wrong sum of the length, and a byte behind", api.ErrSum, append(f, 0)...)
	}
	over := plainFrame(make([]byte, api.MaxBody+1))
	fails(t, "a length above MaxBody", api.ErrLong, over...)
	fails(t, "a length above MaxBody, and nothing", api.ErrLong, over[:8]...)
	fails(t, "a length above MaxBody that is cut", api.ErrShort, over[:7]...)
}

// P11.1: of several errors of the body, the first from the left comes first; then what is left of it; then what Check refuses.
func TestFirstOfTheBody(t *testing.T) {
	form, long := []byte{128, 0}, join(plainNumber(256), []byte(strings.Repeat("a", 256)))
	for _, c := range []struct {
		what string
		want api.Errno
		body []byte
	}{
		{"a Kind that is none, ahead of the end", api.ErrForm, []byte{15}},
		{"a Kind that is none, ahead of a long text", api.ErrForm, join([]byte{0, 1, 2, 3, 1}, long)},
		{"From, ahead of the end", api.ErrForm, join([]byte{5}, form)},
		{"To, ahead of the end", api.ErrForm, join([]byte{5, 1}, form)},
		{"From, ahead of a long text", api.ErrForm, join([]byte{6}, form, []byte{2, 3, 1}, long)},
		{"a Slot, ahead of a long text", api.ErrForm, join([]byte{6, 1, 2}, form, []byte{1}, long)},
		{"a Ballot, ahead of a long Image", api.ErrForm, join([]byte{10, 1, 2}, form, plainNumber(api.MaxNumber))},
		{"a long text, ahead of a Vote", api.ErrLong, promised(2, join([]byte{3, 0, 1}, long, form)...)},
		{"a Vote's Slot, ahead of a long text", api.ErrForm, promised(2, join(form, []byte{0, 1}, long)...)},
		{"a Vote's Ballot, ahead of a long text", api.ErrForm, promised(2, join([]byte{3}, form, []byte{1}, long)...)},
		{"a long text, ahead of the end", api.ErrLong, promised(2, join([]byte{3, 0, 1}, long)...)},
		{"the end, ahead of what Check refuses", api.ErrShort, []byte{5, 15, 2}},
		{"the end, ahead of what Check refuses in Votes", api.ErrShort, promised(3, 3, 0, 0, 3, 0, 0)},
		{"a number, ahead of what is left", api.ErrForm, join([]byte{5, 1, 2}, form, []byte{0})},
		{"a number, ahead of what Check refuses", api.ErrForm, join([]byte{5, 99, 2}, form)},
		{"a long text, ahead of what Check refuses", api.ErrLong, join([]byte{6, 99, 2, 3, 1}, long)},
		{"a long Image, ahead of what Check refuses", api.ErrLong, join([]byte{10, 99, 2, 3}, plainNumber(api.MaxBody))},
		{"what is left, ahead of what Check refuses", api.ErrLong, []byte{5, 15, 2, 3, 0}},
		{"what is left, ahead of what Check refuses in Votes", api.ErrLong, promised(2, 3, 0, 0, 3, 0, 0, 9)},
		{"what Check refuses", api.ErrForm, []byte{5, 15, 2, 3}},
		{"what Check refuses of To", api.ErrForm, []byte{5, 1, 99, 3}},
	} {
		spoilt(t, c.what, c.want, c.body...)
	}
}

// P11.1, P11.2: each byte of a body put by each other one that matters, taken away, and doubled.
func TestDecodeOtherBytes(t *testing.T) {
	taken, refused := 0, 0
	note := func(body []byte) {
		if decodes(t, plainFrame(body)) == api.OK {
			taken++
		} else {
			refused++
		}
	}
	for _, m := range some() {
		body := plainRow(m).bytes()
		for i := range body {
			for _, c := range []byte{0, 1, 2, 3, 8, 14, 15, 64, 65, 99, 100, 127, 128, 129, 199, 200, 255} {
				other := bytes.Clone(body)
				other[i] = c
				note(other)
				note(slices.Insert(bytes.Clone(body), i, c))
			}
			note(slices.Delete(bytes.Clone(body), i, i+1))
		}
	}
	if taken < 1000 || refused < 1000 {
		t.Errorf("%d taken, %d refused", taken, refused)
	}
}

// P11.1, P11.2: all bodies of up to two bytes, and those of three to six that a few bytes make.
func TestDecodeShortBodies(t *testing.T) {
	for a := range 256 {
		decodes(t, plainFrame([]byte{byte(a)}))
		for b := range 256 {
			decodes(t, plainFrame([]byte{byte(a), byte(b)}))
		}
	}
	few := []byte{0, 1, 15, 100, 128}
	rows := [][]byte{nil}
	for i := 0; len(rows[i]) < 5; i++ {
		for _, c := range few {
			rows = append(rows, join(rows[i], []byte{c}))
		}
	}
	for kind := range byte(16) {
		for _, r := range rows {
			decodes(t, plainFrame(join([]byte{kind}, r)))
		}
	}
}

// R2: with an error there is no part of a message, however much of it was read.
func TestNothingBesideAnError(t *testing.T) {
	var none api.Message
	for _, m := range some() {
		body := plainRow(m).bytes()
		for _, b := range [][]byte{
			plainFrame(body[:len(body)-1]), plainFrame(append(bytes.Clone(body), 0)), append(plainFrame(body), 0), plainFrame(body)[1:],
			plainFrame(plainRow(m).having(1, 15)), plainFrame(plainRow(m).having(2, 99)),
		} {
			if got, e := msg.Decode(b); e == api.OK || !same(got, none) {
				t.Errorf("Decode of %v: %s, %v", b, brief(got), e)
			}
		}
		for _, wrong := range []api.Message{with(m, "From", -1), with(m, "To", math.MaxInt), with(m, "Kind", 15)} {
			if b, e := msg.Encode(wrong); e != api.ErrArg || len(b) != 0 {
				t.Errorf("Encode of %s: %v, %v", brief(wrong), b, e)
			}
		}
	}
}

// P11.1: what is read among a message's bytes is what package entry reads of them alone.
func TestDecodeAsEntry(t *testing.T) {
	for _, v := range goodValues() {
		b, _ := entry.Encode(v)
		m, e := msg.Decode(plainFrame(join([]byte{6, 1, 2, 3}, b)))
		if e != api.OK || !entry.Same(m.Value, v) {
			t.Errorf("a Value of %v: %s, %v", brief(b), brief(m), e)
		}
	}
	for _, v := range goodVerdicts() {
		b, _ := entry.EncodeVerdict(v)
		m, e := msg.Decode(plainFrame(join([]byte{13, 1, 100, 3}, b)))
		if e != api.OK || !entry.Alike(m.Verdict, v) {
			t.Errorf("a Verdict of %v: %s, %v", brief(b), brief(m), e)
		}
	}
}
