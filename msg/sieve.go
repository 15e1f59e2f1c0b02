package msg

import (
	"wapentake/api"
	"wapentake/entry"
)

// sieve takes fields away that may be: what is left of a message behind it is beyond its limit, or is not named by the Kind.
type sieve struct{ m *api.Message }

func (s sieve) ballot() { takeNumber(&s.m.Ballot) }

func (s sieve) slot() { takeNumber(&s.m.Slot) }

func (s sieve) time() { takeNumber(&s.m.Time) }

func (s sieve) number() { takeNumber(&s.m.Number) }

func (s sieve) value() {
	if entry.Check(s.m.Value) == api.OK {
		s.m.Value = api.Request{}
	}
}

func (s sieve) votes() {
	if areVotes(s.m.Votes) {
		s.m.Votes = nil
	}
}

func (s sieve) image() {
	if len(s.m.Image) <= mostImage {
		s.m.Image = nil
	}
}

// verdict asks by writing it, since package entry has no other check of one.
func (s sieve) verdict() {
	if _, e := entry.EncodeVerdict(s.m.Verdict); e == api.OK {
		s.m.Verdict = api.Verdict{}
	}
}

// takeNumber takes a number away that may be. One that may not be is not 0, and stays so.
func takeNumber(n *int) {
	if isNumber(*n) {
		*n = 0
	}
}

// areVotes tells whether Votes may be.
func areVotes(l []api.Vote) bool {
	if len(l) > mostVotes {
		return false
	}
	last := -1 // ahead of all slots
	for _, v := range l {
		if v.Slot <= last || !isNumber(v.Slot) || !isNumber(v.Ballot) || entry.Check(v.Value) != api.OK {
			return false
		}
		last = v.Slot
	}
	return true
}

// isNumber tells whether a number may be.
func isNumber(n int) bool { return 0 <= n && n <= api.MaxNumber }

// isBare tells whether a message has no field that a Kind could name.
func isBare(m api.Message) bool {
	return m.Ballot == 0 && m.Slot == 0 && m.Time == 0 && m.Number == 0 &&
		entry.Same(m.Value, api.Request{}) && len(m.Votes) == 0 &&
		len(m.Image) == 0 && entry.Alike(m.Verdict, api.Verdict{})
}
