package tree

import (
	"wapentake/api"
	"wapentake/path"
)

// node is a leaf, with those ahead of it at its left and those behind it at its right. It never changes, so that trees may share it.
type node struct {
	leaf        api.Leaf
	left, right *node
	many, depth int
}

// join makes a node; all of left is ahead of l, and all of right behind it.
func join(left *node, l api.Leaf, right *node) *node {
	return &node{
		leaf:  l,
		left:  left,
		right: right,
		many:  left.size() + 1 + right.size(),
		depth: max(left.height(), right.height()) + 1,
	}
}

// size is how many leaves there are from n downwards.
func (n *node) size() int {
	if n == nil {
		return 0
	}
	return n.many
}

// height is how many leaves stand one below the other at most, n's own among them.
func (n *node) height() int {
	if n == nil {
		return 0
	}
	return n.depth
}

// get is the leaf of the path p; false, if there is none.
func (n *node) get(p string) (api.Leaf, bool) {
	for n != nil {
		switch path.Compare(p, n.leaf.Path) {
		case -1:
			n = n.left
		case 1:
			n = n.right
		default:
			return n.leaf, true
		}
	}
	return api.Leaf{}, false
}

// put makes the nodes on the way down to l anew; all others are shared with n.
func (n *node) put(l api.Leaf) *node {
	if n == nil {
		return join(nil, l, nil)
	}
	switch path.Compare(l.Path, n.leaf.Path) {
	case -1:
		return join(n.left.put(l), n.leaf, n.right).level()
	case 1:
		return join(n.left, n.leaf, n.right.put(l)).level()
	}
	return join(n.left, l, n.right)
}

// walk hands out the leaves that are not ahead of from, in order, until yield wants no more; it tells whether yield wants more.
func (n *node) walk(from string, yield func(api.Leaf) bool) bool {
	if n == nil {
		return true
	}
	if path.Compare(n.leaf.Path, from) < 0 {
		return n.right.walk(from, yield)
	}
	return n.left.walk(from, yield) && yield(n.leaf) && n.right.walk(from, yield)
}
