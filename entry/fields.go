package entry

import "wapentake/api"

const mostChanges = 64 // of a request or a commit, in bytes: more than api.MaxChanges, which a machine takes

// hand is the method values that go through fields, one for each sort of them. Each is handed a field and gives back what is to stand there: a pen's what it wrote, an eye's what it read. So the order of the fields stands in one switch for both.
type hand struct {
	num  func(n int) int
	upTo func(n, most int) int
	text func(s string) string
	flag func(b bool) bool
	word func(x uint64) uint64
}

// request goes through the fields that the Kind of r names, and answers a request that has no others.
func (h hand) request(r api.Request) api.Request {
	named := api.Request{Kind: h.upTo(r.Kind, api.Kinds-1)}
	switch named.Kind {
	case api.Noop:
		return named
	case api.Open:
		named.Name = h.text(r.Name)
		return named
	}
	named.Session = h.num(r.Session)
	named.Seq = h.num(r.Seq)
	switch named.Kind {
	case api.Land:
		named.Base = h.num(r.Base)
		named.Ref = h.text(r.Ref)
		named.Changes = list(h, r.Changes, mostChanges, h.change)
	case api.Read:
		named.Path = h.text(r.Path)
	case api.Log:
		named.From = h.num(r.From)
		named.Many = h.num(r.Many)
	case api.Add, api.Drop:
		named.Member = h.num(r.Member)
	}
	return named
}

// verdict goes through the fields that the Code of v names, and answers a verdict that has no others.
func (h hand) verdict(v api.Verdict) api.Verdict {
	named := api.Verdict{Code: h.upTo(v.Code, api.Codes-1)}
	switch named.Code {
	case api.Opened:
		named.Session = h.num(v.Session)
	case api.Landed, api.Ahead, api.HeadIs:
		named.Rev = h.num(v.Rev)
	case api.Conflict:
		named.Path = h.text(v.Path)
		named.Rev = h.num(v.Rev)
	case api.Found:
		named.Path = h.text(v.Path)
		named.Digest = h.word(v.Digest)
		named.Rev = h.num(v.Rev)
	case api.Missing:
		named.Path = h.text(v.Path)
	case api.LogIs:
		named.Commits = list(h, v.Commits, api.MaxLog, h.commit)
	case api.Added, api.Dropped, api.Refused:
		named.Member = h.num(v.Member)
	}
	return named
}

// commit goes through the fields of a commit.
func (h hand) commit(c api.Commit) api.Commit {
	var named api.Commit
	named.Rev = h.num(c.Rev)
	named.Base = h.num(c.Base)
	named.Ref = h.text(c.Ref)
	named.Changes = list(h, c.Changes, mostChanges, h.change)
	return named
}

// change goes through the fields of a change; one that is gone has no Digest.
func (h hand) change(c api.Change) api.Change {
	var named api.Change
	named.Path = h.text(c.Path)
	named.Gone = h.flag(c.Gone)
	if !named.Gone {
		named.Digest = h.word(c.Digest)
	}
	return named
}

// list goes through how many there are, and through each. For an eye l is empty: how many there will be is read.
func list[T any](h hand, l []T, most int, one func(T) T) []T {
	many := h.upTo(len(l), most)
	if many == 0 {
		return nil
	}
	named := make([]T, many)
	copy(named, l)
	for i, x := range named {
		named[i] = one(x)
	}
	return named
}
