package epoch

import (
	"iter"

	"wapentake/api"
)

// set tells of each replica whether it is a member.
type set [api.MaxReplicas]bool

// setOf is the set of those numbers; false, if they may not be members. That they are too many is not asked: so many do not rise.
func setOf(members []int) (set, bool) {
	var s set
	least := 0
	for _, id := range members {
		if id < least || !isReplica(id) {
			return set{}, false
		}
		s[id] = true
		least = id + 1
	}
	return s, len(members) > 0
}

// change is s with one more, or without one that is not the only one.
func (s set) change(id int, add bool) (set, api.Errno) {
	there := s[id]
	s[id] = add
	switch {
	case add && there:
		return set{}, api.ErrThere
	case !add && !there:
		return set{}, api.ErrNone
	case s == (set{}):
		return set{}, api.ErrArg
	}
	return s, api.OK
}

// each tells the numbers one by one, rising.
func (s set) each() iter.Seq[int] {
	return func(yield func(int) bool) {
		for id, in := range s {
			if in && !yield(id) {
				return
			}
		}
	}
}

// tell is the numbers as a new list, rising.
func (s set) tell() []int {
	var out []int
	for id := range s.each() {
		out = append(out, id)
	}
	return out
}

// isReplica tells whether a replica may have that number.
func isReplica(id int) bool { return id >= 0 && id < api.MaxReplicas }
