package image

import (
	"wapentake/api"
	"wapentake/codec"
	"wapentake/entry"
	"wapentake/machine"
)

// pen writes the parts of a machine. It goes on where the writer fails, which tells no bytes then.
type pen struct{ w *codec.Writer }

func (p pen) machine(m *machine.Machine) {
	p.w.Num(m.Alpha())
	p.w.Num(m.Size())
	p.w.Num(m.Applied())
	writeList(p, m.Epochs(), p.epoch)
	writeList(p, m.Sessions(), p.session)
	writeList(p, m.Commits(), p.commit)
}

func (p pen) epoch(e api.Epoch) {
	p.w.Num(e.From)
	writeList(p, e.Members, p.w.Num)
}

func (p pen) session(s api.Session) {
	p.w.Num(s.Id)
	p.w.Num(s.Seq)
	p.w.Text(s.Name)
	entry.Told(p.w, s.Last)
}

// commit does not write the Rev, which is the commit's place.
func (p pen) commit(c api.Commit) {
	p.w.Num(c.Base)
	p.w.Text(c.Ref)
	writeList(p, c.Changes, p.change)
}

func (p pen) change(c api.Change) {
	p.w.Text(c.Path)
	p.w.Flag(c.Gone)
	if !c.Gone {
		p.w.Word(c.Digest)
	}
}

// writeList writes how many there are, and each.
func writeList[T any](p pen, l []T, one func(T)) {
	p.w.Num(len(l))
	for _, x := range l {
		one(x)
	}
}
