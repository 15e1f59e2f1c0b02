package msg

import (
	"wapentake/api"
	"wapentake/codec"
	"wapentake/entry"
)

// pen writes fields.
type pen struct {
	w *codec.Writer
	m *api.Message
}

func (p pen) ballot() { p.w.Num(p.m.Ballot) }

func (p pen) slot() { p.w.Num(p.m.Slot) }

func (p pen) time() { p.w.Num(p.m.Time) }

func (p pen) number() { p.w.Num(p.m.Number) }

func (p pen) value() { entry.Put(p.w, p.m.Value) }

func (p pen) votes() {
	p.w.Num(len(p.m.Votes))
	for _, v := range p.m.Votes {
		p.w.Num(v.Slot)
		p.w.Num(v.Ballot)
		entry.Put(p.w, v.Value)
	}
}

func (p pen) image() { p.w.Bytes(p.m.Image) }

func (p pen) verdict() { entry.Told(p.w, p.m.Verdict) }
