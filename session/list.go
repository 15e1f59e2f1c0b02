package session

import (
	"strings"

	"wapentake/api"
)

// without is l without the session at the place i. What is ahead of it is cut with no room behind, so that what follows is not moved within l, which a clone may have.
func without(l []api.Session, i int) []api.Session { return append(l[:i:i], l[i+1:]...) }

// behind is l and s. It is cut with no room behind, so that s is put into no list that goes on behind l, nor into room that a clone may fill.
func behind(l []api.Session, s api.Session) []api.Session { return append(l[:len(l):len(l)], s) }

// copySession is s in memory of its own.
func copySession(s api.Session) api.Session {
	s.Name = strings.Clone(s.Name)
	s.Last = copyVerdict(s.Last)
	return s
}

// copyVerdict is v in memory of its own.
func copyVerdict(v api.Verdict) api.Verdict {
	v.Path = strings.Clone(v.Path)
	v.Commits = copyAll(v.Commits, copyCommit)
	return v
}

// copyCommit is c in memory of its own.
func copyCommit(c api.Commit) api.Commit {
	c.Ref = strings.Clone(c.Ref)
	c.Changes = copyAll(c.Changes, copyChange)
	return c
}

// copyChange is c in memory of its own. Its path may be a piece of a long text, which would else be kept with it.
func copyChange(c api.Change) api.Change {
	c.Path = strings.Clone(c.Path)
	return c
}

// copyAll is a copy of each of l. It is nil of an empty list, whose spare room would else be kept.
func copyAll[T any](l []T, one func(T) T) []T {
	var out []T
	for _, x := range l {
		out = append(out, one(x))
	}
	return out
}
