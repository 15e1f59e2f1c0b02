package image

import (
	"wapentake/api"
	"wapentake/codec"
	"wapentake/entry"
	"wapentake/machine"
)

// eye reads the parts of a machine, and ends by a panic with the error of the first that is wrong.
type eye struct{ r *codec.Reader }

// machine reads all parts ahead of making the machine: what is wrong with the bytes counts ahead of what is wrong with what they say.
func (e eye) machine() *machine.Machine {
	alpha := e.num()
	size := e.num()
	applied := e.num()
	epochs := readList(e, mostEpochs, e.epoch)
	sessions := readList(e, api.MaxSessions, e.session)
	commits := readList(e, api.MaxNumber, e.commit)
	for i := range commits {
		commits[i].Rev = i + 1
	}
	mustBe(e.r.End())
	m, err := machine.Make(alpha, size, applied, epochs, sessions, commits)
	mustBe(err)
	return m
}

func (e eye) epoch() api.Epoch {
	var x api.Epoch
	x.From = e.num()
	x.Members = readList(e, api.MaxReplicas, e.num)
	return x
}

func (e eye) session() api.Session {
	var s api.Session
	s.Id = e.num()
	s.Seq = e.num()
	s.Name = e.text(api.MaxPart)
	s.Last = e.verdict()
	return s
}

func (e eye) commit() api.Commit {
	var c api.Commit
	c.Base = e.num()
	c.Ref = e.text(mostText)
	c.Changes = readList(e, mostChanges, e.change)
	return c
}

func (e eye) change() api.Change {
	var c api.Change
	c.Path = e.text(mostText)
	c.Gone = e.flag()
	if !c.Gone {
		c.Digest = e.word()
	}
	return c
}

func (e eye) num() int { return sound(e, e.r.Num()) }

func (e eye) text(most int) string { return sound(e, e.r.Text(most)) }

func (e eye) flag() bool { return sound(e, e.r.Flag()) }

func (e eye) word() uint64 { return sound(e, e.r.Word()) }

func (e eye) verdict() api.Verdict { return sound(e, entry.Heard(e.r)) }

// readList reads how many there are, and each. It makes no room for them ahead: the bytes may say any number, and end behind it.
func readList[T any](e eye, most int, one func() T) []T {
	many := e.num()
	if many > most {
		panic(api.ErrForm)
	}
	var l []T
	for range many {
		l = append(l, one())
	}
	return l
}

// sound is a part that was read, unless the reader failed at it.
func sound[T any](e eye, part T) T {
	mustBe(e.r.Fail())
	return part
}

// mustBe ends Load at an error.
func mustBe(e api.Errno) {
	if e != api.OK {
		panic(e)
	}
}
