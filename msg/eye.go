package msg

import (
	"wapentake/api"
	"wapentake/codec"
	"wapentake/entry"
)

// eye reads fields. It goes on where the reader fails, which reads zeros then.
type eye struct {
	r *codec.Reader
	m *api.Message
}

func (e eye) ballot() { e.m.Ballot = e.r.Num() }

func (e eye) slot() { e.m.Slot = e.r.Num() }

func (e eye) time() { e.m.Time = e.r.Num() }

func (e eye) number() { e.m.Number = e.r.Num() }

func (e eye) value() { e.m.Value = entry.Take(e.r) }

func (e eye) votes() {
	many := e.r.Num()
	if many > mostVotes {
		e.r.Refuse()
		return
	}
	for range many {
		e.m.Votes = append(e.m.Votes, e.vote())
	}
}

func (e eye) vote() api.Vote {
	var v api.Vote
	v.Slot = e.r.Num()
	v.Ballot = e.r.Num()
	v.Value = entry.Take(e.r)
	return v
}

func (e eye) image() { e.m.Image = e.r.Bytes(mostImage) }

func (e eye) verdict() { e.m.Verdict = entry.Heard(e.r) }
