package machine

import (
	"wapentake/api"
	"wapentake/path"
)

// deed does a request with a machine, at the slot that is its next one.
type deed func(*Machine, api.Request) api.Verdict

// deedOf is how a request of that Kind is done.
func deedOf(kind int) deed {
	switch kind {
	case api.Noop:
		return (*Machine).nothing
	case api.Open:
		return (*Machine).open
	}
	return (*Machine).once
}

// workOf is how a session's request of that Kind is done, when it is not told what it was told already.
func workOf(kind int) deed {
	switch kind {
	case api.Land:
		return (*Machine).land
	case api.Add:
		return (*Machine).add
	case api.Drop:
		return (*Machine).drop
	}
	return lookOf(kind)
}

// lookOf is how a request of that Kind is done, if it changes nothing; of all other Kinds it is bad.
func lookOf(kind int) deed {
	switch kind {
	case api.Head:
		return (*Machine).head
	case api.Read:
		return (*Machine).read
	case api.Log:
		return (*Machine).log
	}
	return (*Machine).bad
}

// nothing is what a slot does that is there to be passed.
func (m *Machine) nothing(api.Request) api.Verdict { return api.Verdict{} }

// bad is what becomes of a request that may not be.
func (m *Machine) bad(api.Request) api.Verdict { return api.Verdict{Code: api.Bad} }

// open opens a session. Its Id is one more than the slot, so that no two that were opened have one, and none has 0.
func (m *Machine) open(r api.Request) api.Verdict {
	if !path.Name(r.Name) {
		return api.Verdict{Code: api.Bad}
	}
	return api.Verdict{Code: api.Opened, Session: m.sessions.Open(r.Name, m.applied+1)}
}

// once does a session's request, unless the session has done it already: then it is told again.
func (m *Machine) once(r api.Request) api.Verdict {
	if v, told := m.sessions.Ask(r.Session, r.Seq); told {
		return v
	}
	v := workOf(r.Kind)(m, r)
	m.sessions.Done(r.Session, r.Seq, v)
	return v
}

// land makes a commit of the request's changes.
func (m *Machine) land(r api.Request) api.Verdict { return m.graph.Land(r.Base, r.Ref, r.Changes) }

// head tells the head's revision.
func (m *Machine) head(api.Request) api.Verdict {
	return api.Verdict{Code: api.HeadIs, Rev: m.graph.Head()}
}

// read tells what a path has.
func (m *Machine) read(r api.Request) api.Verdict { return m.graph.Read(r.Path) }

// log tells commits.
func (m *Machine) log(r api.Request) api.Verdict { return m.graph.Log(r.From, r.Many) }

// add makes one more a member.
func (m *Machine) add(r api.Request) api.Verdict { return m.change(r, true, api.Added) }

// drop makes a member none.
func (m *Machine) drop(r api.Request) api.Verdict { return m.change(r, false, api.Dropped) }

// change adds or drops the request's member; done is what to tell, if that may be.
func (m *Machine) change(r api.Request, add bool, done int) api.Verdict {
	if m.epochs.Change(m.applied, r.Member, add) != api.OK {
		done = api.Refused
	}
	return api.Verdict{Code: done, Member: r.Member}
}
