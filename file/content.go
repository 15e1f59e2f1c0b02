package file

import "bytes"

// content is a file's bytes, of which the first so many last.
type content struct {
	all  []byte // in memory that no other content has
	last int
}

// has tells whether there are n bytes.
func (c *content) has(n int) bool { return 0 <= n && n <= len(c.all) }

// put puts b behind the bytes. It does not last.
func (c *content) put(b []byte) { c.all = append(c.all, b...) }

// sync makes all bytes last.
func (c *content) sync() { c.last = len(c.all) }

// cut leaves the first n bytes, which there are. They are copied, since a piece would keep the others.
func (c *content) cut(n int) {
	c.all = bytes.Clone(c.all[:n])
	c.last = min(c.last, n)
}

// left is a content of what lasts and the first more of the other bytes, as far as there are any. All of it lasts.
func (c *content) left(more int) *content {
	// More is cut ahead of the sum, which it could make wrap round.
	n := c.last + min(max(more, 0), len(c.all)-c.last)
	return &content{all: bytes.Clone(c.all[:n]), last: n}
}

// flip turns a bit, and tells whether there is that one.
func (c *content) flip(bit int) bool {
	// A division would bring bits just below 0 into the first byte.
	if bit < 0 || bit/8 >= len(c.all) {
		return false
	}
	c.all[bit/8] ^= 1 << (bit % 8)
	return true
}

// clone is a content that is as c now.
func (c *content) clone() *content { return &content{all: bytes.Clone(c.all), last: c.last} }
