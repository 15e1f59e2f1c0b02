package tree

// level is n, turned so that its sides' heights are at most one apart again, where one leaf more made them two apart. That keeps each tree as flat as the chapter asks.
func (n *node) level() *node {
	turn := n.stay
	switch lean := n.lean(); {
	case lean < -1 && n.left.lean() > 0:
		turn = n.turnRightTwice
	case lean < -1:
		turn = n.turnRight
	case lean > 1 && n.right.lean() < 0:
		turn = n.turnLeftTwice
	case lean > 1:
		turn = n.turnLeft
	}
	return turn()
}

// lean is by how much n's right side is higher than its left one.
func (n *node) lean() int { return n.right.height() - n.left.height() }

// stay is no turn at all.
func (n *node) stay() *node { return n }

// turnRight is the same leaves in the same order, with the left one on top.
func (n *node) turnRight() *node {
	up := n.left
	return join(up.left, up.leaf, join(up.right, n.leaf, n.right))
}

// turnLeft is the same leaves in the same order, with the right one on top.
func (n *node) turnLeft() *node {
	up := n.right
	return join(join(n.left, n.leaf, up.left), up.leaf, up.right)
}

// turnRightTwice is for a left side that leans to the right: a turn of n alone would only make it lean the other way.
func (n *node) turnRightTwice() *node {
	return join(n.left.turnLeft(), n.leaf, n.right).turnRight()
}

// turnLeftTwice is for a right side that leans to the left.
func (n *node) turnLeftTwice() *node {
	return join(n.left, n.leaf, n.right.turnRight()).turnLeft()
}
