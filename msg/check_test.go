package msg_test

import (
	"math"
	"slices"
	"strings"
	"testing"

	"wapentake/api"
	"wapentake/msg"
)

// P11.1: each of the Kinds with all of its fields, with each of them alone, and with none.
func TestEachKind(t *testing.T) {
	if l := kinds(); len(l) != 14 || l[0] != 1 || l[13] != 14 {
		t.Fatalf("the Kinds: %v", l)
	}
	for _, kind := range kinds() {
		takes(t, "none of its fields", bare(kind))
		takes(t, "all of its fields", full(kind))
		for _, name := range named(kind) {
			takes(t, "one field, "+name, with(bare(kind), name, ordinary(name)))
			takes(t, "all but "+name, with(full(kind), name, field(new(api.Message), name).Interface()))
		}
	}
}

// small is values for a field that are not zero, among them the least that there are, and such as may not be where the field is named.
func small(name string) []any {
	switch name {
	case "Value":
		return []any{api.Request{Kind: 1}, api.Request{Kind: -1}, api.Request{Kind: 99}, api.Request{Name: "a"}, api.Request{Changes: make([]api.Change, 1)}, land()}
	case "Votes":
		return []any{make([]api.Vote, 1), make([]api.Vote, 2), make([]api.Vote, 4097), ordinary(name)}
	case "Image":
		return []any{[]byte{0}, []byte{1, 2}, make([]byte, api.MaxBody/2+1)}
	case "Verdict":
		return []any{api.Verdict{Code: 5}, api.Verdict{Code: -1}, api.Verdict{Code: 99}, api.Verdict{Rev: 1}, api.Verdict{Commits: make([]api.Commit, 1)}, log()}
	}
	return []any{1, -1, 300, api.MaxNumber, api.MaxNumber + 1, math.MinInt, math.MaxInt}
}

// P11.1: each field that the Kind does not name.
func TestFieldsThatAreNotNamed(t *testing.T) {
	places := 0
	for _, kind := range kinds() {
		for _, name := range all() {
			if slices.Contains(named(kind), name) {
				continue
			}
			places++
			for _, value := range small(name) {
				refuses(t, name+" beside none", with(bare(kind), name, value))
				refuses(t, name+" beside all", with(full(kind), name, value))
			}
		}
	}
	if places != 14*8-30 {
		t.Errorf("%d places", places)
	}
}

// P11.1: of a field that is not named an empty list is as none.
func TestEmptyLists(t *testing.T) {
	for _, kind := range kinds() {
		for _, m := range []api.Message{bare(kind), full(kind)} {
			for name, empty := range map[string]any{
				"Votes": []api.Vote{}, "Image": []byte{},
				"Value": api.Request{Changes: []api.Change{}}, "Verdict": api.Verdict{Commits: []api.Commit{}},
			} {
				if !isZero(field(&m, name)) {
					continue
				}
				takes(t, "an empty "+name, with(m, name, empty))
			}
		}
	}
}

// P11.1: a Kind that is none.
func TestNoSuchKind(t *testing.T) {
	for _, kind := range []int{math.MinInt, -300, -2, -1, 0, 15, 16, 127, 128, 257, 256 + 5, api.MaxNumber, api.MaxNumber + 1, math.MaxInt} {
		refuses(t, "a Kind that is none", bare(kind))
		for _, like := range kinds() {
			refuses(t, "a Kind that is none", with(full(like), "Kind", kind))
		}
	}
}

// P11.1: addresses of replicas and of clients, at their limits and one beyond.
func TestAddresses(t *testing.T) {
	good := []int{0, 1, api.MaxReplicas - 1, api.Clients, api.Clients + 1, api.Clients + 99}
	bad := []int{math.MinInt, -100, -1, api.MaxReplicas, 16, 50, api.Clients - 1, api.Clients + 100, 256, 1 << 32, math.MaxInt}
	for _, kind := range kinds() {
		for _, m := range []api.Message{bare(kind), full(kind)} {
			for _, n := range good {
				takes(t, "From", with(m, "From", n))
				takes(t, "To", with(m, "To", n))
				for _, other := range good {
					takes(t, "both", with(with(m, "From", n), "To", other))
				}
			}
			for _, n := range bad {
				refuses(t, "From", with(m, "From", n))
				refuses(t, "To", with(m, "To", n))
				refuses(t, "both", with(with(m, "From", n), "To", n))
			}
		}
	}
}

// P11.1: each number that a Kind names, at its limits and beyond.
func TestNumbers(t *testing.T) {
	places := 0
	for _, kind := range kinds() {
		for _, name := range []string{"Ballot", "Slot", "Time", "Number"} {
			if !slices.Contains(named(kind), name) {
				continue
			}
			places++
			for _, m := range []api.Message{bare(kind), full(kind)} {
				for _, n := range goodNumbers() {
					takes(t, name, with(m, name, n))
				}
				for _, n := range badNumbers() {
					refuses(t, name, with(m, name, n))
				}
			}
		}
	}
	if places != 23 {
		t.Errorf("%d places", places)
	}
}

// badValues is requests that may not be.
func badValues() []api.Request {
	return []api.Request{
		{Kind: -1}, {Kind: 8}, {Kind: math.MaxInt}, {Name: "a"}, {Member: -1},
		{Kind: api.Open, Name: strings.Repeat("a", 256)}, {Kind: api.Open, Session: 1},
		{Kind: api.Head, Seq: -1}, {Kind: api.Head, Session: api.MaxNumber + 1}, {Kind: api.Read, Ref: "r"},
		{Kind: api.Land, Changes: make([]api.Change, 65)}, {Kind: api.Land, Changes: []api.Change{{}, {Gone: true, Digest: 1}}},
		{Kind: api.Add, Member: -1}, {Kind: api.Drop, Member: api.MaxNumber + 1},
	}
}

// goodValues is requests that may be, though a machine may find them Bad.
func goodValues() []api.Request {
	return []api.Request{
		{}, open(""), open(strings.Repeat("\xff", 255)), land(), {Kind: api.Head, Session: api.MaxNumber, Seq: api.MaxNumber},
		{Kind: api.Read, Path: "a/../b"}, {Kind: api.Log, Many: api.MaxNumber}, {Kind: api.Land, Changes: make([]api.Change, 64)},
		{Kind: api.Add, Member: api.MaxNumber}, {Kind: api.Drop, Session: 1},
	}
}

// P11.1: a Value, by package entry's check.
func TestValues(t *testing.T) {
	for _, kind := range []int{api.MsgAccept, api.MsgChosen, api.MsgCall, api.MsgAsk} {
		for _, m := range []api.Message{bare(kind), full(kind)} {
			for _, v := range goodValues() {
				takes(t, "a Value", with(m, "Value", v))
			}
			for _, v := range badValues() {
				refuses(t, "a Value", with(m, "Value", v))
			}
		}
	}
}

// badVerdicts is verdicts that may not be.
func badVerdicts() []api.Verdict {
	return []api.Verdict{
		{Code: -1}, {Code: 15}, {Code: math.MaxInt}, {Session: 1}, {Code: api.Bad, Rev: 1},
		{Code: api.Opened, Session: -1}, {Code: api.Landed, Rev: api.MaxNumber + 1}, {Code: api.Missing, Path: strings.Repeat("a", 256)},
		{Code: api.LogIs, Commits: make([]api.Commit, api.MaxLog+1)}, {Code: api.LogIs, Commits: []api.Commit{{}, {Base: -1}}},
		{Code: api.LogIs, Commits: []api.Commit{{Changes: []api.Change{{Gone: true, Digest: 1}}}}}, {Code: api.Refused, Member: -1},
	}
}

// goodVerdicts is verdicts that may be, one of each Code.
func goodVerdicts() []api.Verdict {
	return []api.Verdict{
		{}, {Code: api.Opened, Session: api.MaxNumber}, {Code: api.Landed, Rev: 1}, {Code: api.Conflict, Path: "a", Rev: 128}, {Code: api.Ahead},
		{Code: api.Bad}, {Code: api.Expired}, {Code: api.Stale}, {Code: api.HeadIs, Rev: 3}, {Code: api.Found, Path: strings.Repeat("p", 255), Digest: math.MaxUint64, Rev: 9},
		{Code: api.Missing, Path: "\x00"}, log(), {Code: api.LogIs, Commits: make([]api.Commit, api.MaxLog)}, {Code: api.LogIs},
		{Code: api.Added, Member: 14}, {Code: api.Dropped, Member: api.MaxNumber}, {Code: api.Refused},
	}
}

// P11.1: a Verdict, by package entry's check.
func TestVerdicts(t *testing.T) {
	for _, m := range []api.Message{bare(api.MsgReply), full(api.MsgReply)} {
		for _, v := range goodVerdicts() {
			takes(t, "a Verdict", with(m, "Verdict", v))
		}
		for _, v := range badVerdicts() {
			refuses(t, "a Verdict", with(m, "Verdict", v))
		}
	}
}

// promise is a message with those Votes.
func promise(l ...api.Vote) api.Message {
	return api.Message{Kind: api.MsgPromise, From: 1, To: 2, Ballot: 9, Slot: 3, Votes: l}
}

// votes is n Votes that may be, of the slots from 0 on.
func votes(n int) []api.Vote {
	l := make([]api.Vote, n)
	for i := range l {
		l[i].Slot = i
	}
	return l
}

// voting is votes(n) with v in the place i.
func voting(n, i int, v api.Vote) []api.Vote {
	l := votes(n)
	l[i] = v
	return l
}

// P11.1: how many Votes there may be.
func TestManyVotes(t *testing.T) {
	for _, n := range []int{0, 1, 2, 127, 128, 4095, 4096} {
		takes(t, "Votes", promise(votes(n)...))
	}
	for _, n := range []int{4097, 4098, 8192, 65536 + 1} {
		refuses(t, "too many Votes", promise(votes(n)...))
	}
}

// P11.1: Slots of Votes rise.
func TestVotesRise(t *testing.T) {
	of := func(slots ...int) api.Message {
		var l []api.Vote
		for _, slot := range slots {
			l = append(l, api.Vote{Slot: slot, Ballot: 1})
		}
		return promise(l...)
	}
	for _, slots := range [][]int{{0}, {7}, {0, 1}, {0, 2}, {5, 9, 10, 4000}, {api.MaxNumber - 1, api.MaxNumber}, {0, api.MaxNumber}} {
		takes(t, "rising Slots", of(slots...))
	}
	for _, slots := range [][]int{
		{0, 0}, {1, 1}, {1, 0}, {2, 1}, {0, 1, 1}, {0, 0, 1}, {0, 2, 1}, {3, 1, 2}, {1, 2, 3, 2, 4}, {5, 6, 0},
		{api.MaxNumber, api.MaxNumber}, {api.MaxNumber, 0}, {1, 2, 3, 3},
	} {
		refuses(t, "Slots that do not rise", of(slots...))
	}
	for _, i := range []int{1, 2000, 4095} {
		refuses(t, "equal Slots among many", promise(voting(4096, i, api.Vote{Slot: i - 1})...))
	}
}

// P11.1: a Vote's numbers at their limits and beyond, in the first place, among others, and in the last.
func TestVotesNumbers(t *testing.T) {
	for _, n := range goodNumbers() {
		takes(t, "a Vote's Slot", promise(api.Vote{Slot: n}))
		for _, i := range []int{0, 1, 2} {
			takes(t, "a Vote's Ballot", promise(voting(3, i, api.Vote{Slot: i, Ballot: n})...))
		}
	}
	takes(t, "the greatest Slot behind others", promise(voting(3, 2, api.Vote{Slot: api.MaxNumber})...))
	for _, n := range badNumbers() {
		refuses(t, "a Vote's Slot", promise(api.Vote{Slot: n}))
		for _, i := range []int{0, 1, 2} {
			refuses(t, "a Vote's Slot among others", promise(voting(3, i, api.Vote{Slot: n})...))
			refuses(t, "a Vote's Ballot", promise(voting(3, i, api.Vote{Slot: i, Ballot: n})...))
		}
	}
	refuses(t, "negative Slots that rise", promise(api.Vote{Slot: -2}, api.Vote{Slot: -1}, api.Vote{}))
}

// P11.1: a Vote's Value, by package entry's check, in the first place, among others, and in the last.
func TestVotesValues(t *testing.T) {
	for i := range 3 {
		for _, v := range goodValues() {
			takes(t, "a Vote's Value", promise(voting(3, i, api.Vote{Slot: i, Value: v})...))
		}
		for _, v := range badValues() {
			refuses(t, "a Vote's Value", promise(voting(3, i, api.Vote{Slot: i, Value: v})...))
		}
	}
	refuses(t, "the last Value of many", promise(voting(4096, 4095, api.Vote{Slot: 4095, Value: api.Request{Kind: 8}})...))
}

// P11.1: how long an Image may be.
func TestImages(t *testing.T) {
	of := func(n int) api.Message {
		return api.Message{Kind: api.MsgImage, Slot: 1, Image: []byte(strings.Repeat("i\x00\xff", n)[:n])}
	}
	for _, n := range []int{0, 1, 127, 128, 70000, api.MaxBody/2 - 1, api.MaxBody / 2} {
		takes(t, "an Image", of(n))
	}
	for _, n := range []int{api.MaxBody/2 + 1, api.MaxBody/2 + 2, api.MaxBody - 20, api.MaxBody, api.MaxBody + 1, 2 * api.MaxBody} {
		refuses(t, "a long Image", of(n))
	}
}

// P11.1: what may not be, written out.
func TestMessagesThatMayNotBe(t *testing.T) {
	for _, m := range []api.Message{
		{},
		{Kind: 15},
		{Kind: -1},
		{Kind: api.MsgNack, From: 15},
		{Kind: api.MsgNack, To: 99},
		{Kind: api.MsgNack, To: 200},
		{Kind: api.MsgNack, From: -1},
		{Kind: api.MsgNack, Slot: 1},
		{Kind: api.MsgNack, Ballot: -1},
		{Kind: api.MsgPrepare, Time: 1},
		{Kind: api.MsgPrepare, Votes: make([]api.Vote, 1)},
		{Kind: api.MsgPromise, Value: open("c")},
		{Kind: api.MsgPromise, Votes: []api.Vote{{Slot: 1}, {Slot: 1}}},
		{Kind: api.MsgAccept, Value: api.Request{Kind: 9}},
		{Kind: api.MsgAccepted, Value: open("c")},
		{Kind: api.MsgChosen, Ballot: 1},
		{Kind: api.MsgBeat, Number: 1},
		{Kind: api.MsgGrant, Time: api.MaxNumber + 1},
		{Kind: api.MsgFetch, Ballot: 1},
		{Kind: api.MsgFetch, Verdict: api.Verdict{Rev: 1}},
		{Kind: api.MsgImage, Image: make([]byte, api.MaxBody/2+1)},
		{Kind: api.MsgImage, Ballot: 1},
		{Kind: api.MsgCall, Slot: 1},
		{Kind: api.MsgAsk, Verdict: api.Verdict{Code: api.Bad}},
		{Kind: api.MsgReply, Verdict: api.Verdict{Code: 77}},
		{Kind: api.MsgReply, Value: open("c")},
		{Kind: api.MsgAway, Image: []byte{0}},
		{Kind: api.MsgAway, Number: -1},
	} {
		if e := msg.Check(m); e != api.ErrArg {
			t.Errorf("Check of %s: %v", brief(m), e)
		}
		if b, e := msg.Encode(m); e != api.ErrArg || len(b) != 0 {
			t.Errorf("Encode of %s: %v, %v", brief(m), b, e)
		}
	}
}
