package msg_test

import (
	"slices"
	"strings"
	"testing"

	"wapentake/api"
	"wapentake/msg"
)

// P11.1: the chapter's example.
func TestExample(t *testing.T) {
	b, e := msg.Encode(api.Message{Kind: api.MsgNack, From: 1, To: 2, Ballot: 300})
	if e != api.OK || len(b) != 17 || !slices.Equal(b[8:13], []byte{5, 1, 2, 172, 2}) {
		t.Fatalf("Encode: %v, %v", b, e)
	}
	fails(t, "its first 11 bytes", api.ErrShort, b[:11]...)
	fails(t, "it and a byte", api.ErrLong, append(b, 0)...)
}

// P11.1: the bodies of one of each Kind, and of some more, written out.
func TestBodies(t *testing.T) {
	digest := uint64(0x0102030405060708)
	for _, c := range []struct {
		m    api.Message
		want []byte
	}{
		{api.Message{Kind: api.MsgPrepare, From: 1, To: 2, Ballot: 3, Slot: 4}, []byte{1, 1, 2, 3, 4}},
		{api.Message{Kind: api.MsgPromise, From: 14, Ballot: 3, Slot: 4}, []byte{2, 14, 0, 3, 4, 0}},
		{api.Message{Kind: api.MsgPromise, From: 14, Ballot: 3, Slot: 4, Votes: []api.Vote{{Slot: 5, Ballot: 1, Value: open("c")}, {Slot: 300, Ballot: 2}}},
			[]byte{2, 14, 0, 3, 4, 2, 5, 1, 1, 1, 99, 172, 2, 2, 0}},
		{api.Message{Kind: api.MsgAccept, From: 1, To: 2, Ballot: 3, Slot: 4, Value: api.Request{Kind: api.Land, Session: 5, Seq: 6, Base: 7, Ref: "m", Changes: []api.Change{{Path: "a", Digest: digest}, {Path: "b", Gone: true}}}},
			[]byte{3, 1, 2, 3, 4, 2, 5, 6, 7, 1, 109, 2, 1, 97, 0, 1, 2, 3, 4, 5, 6, 7, 8, 1, 98, 1}},
		{api.Message{Kind: api.MsgAccept}, []byte{3, 0, 0, 0, 0, 0}},
		{api.Message{Kind: api.MsgAccepted, To: 14, Ballot: 128, Slot: 127}, []byte{4, 0, 14, 128, 1, 127}},
		{api.Message{Kind: api.MsgNack, From: 1, To: 2, Ballot: 300}, []byte{5, 1, 2, 172, 2}},
		{api.Message{Kind: api.MsgChosen, Slot: 3, Value: api.Request{Kind: api.Head, Session: 8, Seq: 9}}, []byte{6, 0, 0, 3, 3, 8, 9}},
		{api.Message{Kind: api.MsgBeat, From: 1, To: 2, Ballot: 3, Slot: 4, Time: 5}, []byte{7, 1, 2, 3, 4, 5}},
		{api.Message{Kind: api.MsgGrant, From: 1, To: 2, Ballot: 3, Slot: 4, Time: api.MaxNumber}, []byte{8, 1, 2, 3, 4, 128, 128, 128, 128, 128, 32}},
		{api.Message{Kind: api.MsgFetch, From: 1, To: 2, Slot: 3}, []byte{9, 1, 2, 3}},
		{api.Message{Kind: api.MsgImage, From: 1, To: 2, Slot: 3, Image: []byte{9, 0, 255}}, []byte{10, 1, 2, 3, 3, 9, 0, 255}},
		{api.Message{Kind: api.MsgImage, From: 1, To: 2}, []byte{10, 1, 2, 0, 0}},
		{api.Message{Kind: api.MsgCall, From: 100, To: 2, Number: 3, Value: open("c")}, []byte{11, 100, 2, 3, 1, 1, 99}},
		{api.Message{Kind: api.MsgAsk, From: 199, To: 2, Number: 3, Value: api.Request{Kind: api.Read, Path: "p"}}, []byte{12, 199, 1, 2, 3, 4, 0, 0, 1, 112}},
		{api.Message{Kind: api.MsgReply, From: 1, To: 128, Number: 3, Verdict: api.Verdict{Code: api.Conflict, Path: "p", Rev: 7}}, []byte{13, 1, 128, 1, 3, 3, 1, 112, 7}},
		{api.Message{Kind: api.MsgReply}, []byte{13, 0, 0, 0, 0}},
		{api.Message{Kind: api.MsgAway, From: 1, To: 127, Number: 3, Slot: 4}, []byte{14, 1, 127, 3, 4}},
	} {
		b, e := msg.Encode(c.m)
		if e != api.OK || !slices.Equal(b, plainFrame(c.want)) {
			t.Errorf("Encode of %s: %v, %v; want a frame of %v", brief(c.m), b, e, c.want)
		}
		if m, e := msg.Decode(plainFrame(c.want)); e != api.OK || !same(m, c.m) {
			t.Errorf("Decode of a frame of %v: %s, %v", c.want, brief(m), e)
		}
	}
}

// long is a message that may be, whose body has that many bytes: Votes with long Refs and Paths.
func long(t *testing.T, size int) api.Message {
	t.Helper()
	const around, each, more = 7, 413, 55 // bytes around the Votes, of a Vote, and how many more it may have
	landing := func(more int) api.Request {
		return api.Request{Kind: api.Land, Ref: strings.Repeat("r", 200+more), Changes: []api.Change{{Path: strings.Repeat("p", 200), Gone: true}}}
	}
	m := promise(votes((size - around) / each)...)
	left := (size - around) % each
	for i := range m.Votes {
		n := min(left, more)
		m.Votes[i] = api.Vote{Slot: 1000 + i, Value: landing(n)}
		left -= n
	}
	if n := len(plainRow(m).bytes()); n != size || !mayBe(m) {
		t.Fatalf("the test made a body of %d bytes, not %d", n, size)
	}
	return m
}

// P11.1: a body that codec.Frame refuses: it may be nevertheless.
func TestEncodeLong(t *testing.T) {
	for _, size := range []int{api.MaxBody - 1, api.MaxBody} {
		m := long(t, size)
		takes(t, "a long body", m)
		if b, e := msg.Encode(m); e != api.OK || len(b) != size+12 {
			t.Errorf("a body of %d bytes: %d, %v", size, len(b), e)
		}
	}
	for _, size := range []int{api.MaxBody + 1, api.MaxBody + 1000} {
		m := long(t, size)
		if e := msg.Check(m); e != api.OK {
			t.Errorf("Check of a body of %d bytes: %v", size, e)
		}
		if b := encodes(t, m); len(b) != 0 {
			t.Errorf("a body of %d bytes: %d bytes", size, len(b))
		}
		if b, e := msg.Encode(m); e != api.ErrLong || len(b) != 0 {
			t.Errorf("a body of %d bytes: %d, %v", size, len(b), e)
		}
		m.Votes[0].Value = api.Request{Kind: -1}
		if b, e := msg.Encode(m); e != api.ErrArg || len(b) != 0 {
			t.Errorf("a long body that may not be: %d, %v", len(b), e)
		}
	}
}

// P11.1: the longest that a field alone can be is not too long for a frame.
func TestEncodeLongFields(t *testing.T) {
	var l []api.Change
	for range 64 {
		l = append(l, api.Change{Path: strings.Repeat("p", 255), Digest: 1})
	}
	v := api.Request{Kind: api.Land, Session: api.MaxNumber, Seq: api.MaxNumber, Base: api.MaxNumber, Ref: strings.Repeat("r", 255), Changes: l}
	takes(t, "a long Value", api.Message{Kind: api.MsgAccept, Ballot: api.MaxNumber, Slot: api.MaxNumber, Value: v})
	verdict := api.Verdict{Code: api.LogIs}
	for range api.MaxLog {
		verdict.Commits = append(verdict.Commits, api.Commit{Rev: api.MaxNumber, Base: api.MaxNumber, Ref: v.Ref, Changes: l})
	}
	takes(t, "a long Verdict", api.Message{Kind: api.MsgReply, Number: api.MaxNumber, Verdict: verdict})
}
