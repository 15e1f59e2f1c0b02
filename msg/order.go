package msg

import "wapentake/api"

// hand goes through a field of a message with each of its methods: a pen writes it, an eye reads it, a sieve takes it away.
type hand interface {
	ballot()
	slot()
	time()
	number()
	value()
	votes()
	image()
	verdict()
}

// order is the method values that go through the fields of a Kind, in the order of their bytes; none of a Kind that is none. All that goes through them goes by it, so that what is written is what is read, and what may be.
func order(h hand, kind int) []func() {
	switch kind {
	case api.MsgPrepare, api.MsgAccepted:
		return []func(){h.ballot, h.slot}
	case api.MsgPromise:
		return []func(){h.ballot, h.slot, h.votes}
	case api.MsgAccept:
		return []func(){h.ballot, h.slot, h.value}
	case api.MsgNack:
		return []func(){h.ballot}
	case api.MsgChosen:
		return []func(){h.slot, h.value}
	case api.MsgBeat, api.MsgGrant:
		return []func(){h.ballot, h.slot, h.time}
	case api.MsgFetch:
		return []func(){h.slot}
	case api.MsgImage:
		return []func(){h.slot, h.image}
	case api.MsgCall, api.MsgAsk:
		return []func(){h.number, h.value}
	case api.MsgReply:
		return []func(){h.number, h.verdict}
	case api.MsgAway:
		return []func(){h.number, h.slot}
	}
	return nil
}
