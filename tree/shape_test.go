package tree

import (
	"math/rand"
	"strconv"
	"testing"

	"wapentake/api"
	"wapentake/path"
)

// look counts by hand how many leaves there are from n downwards, and how many stand one below the other at most; it fails where a node says otherwise, leans too much, or is on the wrong side.
func look(t *testing.T, n *node) (many, depth int) {
	t.Helper()
	if n == nil {
		return 0, 0
	}
	leftMany, leftDepth := look(t, n.left)
	rightMany, rightDepth := look(t, n.right)
	many, depth = leftMany+1+rightMany, max(leftDepth, rightDepth)+1
	if n.many != many || n.depth != depth {
		t.Fatalf("at %q: %d leaves, %d deep, want %d, %d", n.leaf.Path, n.many, n.depth, many, depth)
	}
	if leftDepth-rightDepth > 1 || rightDepth-leftDepth > 1 {
		t.Fatalf("at %q: %d deep at the left, %d at the right", n.leaf.Path, leftDepth, rightDepth)
	}
	if n.left != nil && path.Compare(n.left.leaf.Path, n.leaf.Path) >= 0 || n.right != nil && path.Compare(n.leaf.Path, n.right.leaf.Path) >= 0 {
		t.Fatalf("at %q: a leaf is on the wrong side", n.leaf.Path)
	}
	return many, depth
}

// P3.1: Depth is how many leaves stand one below the other at most, and Len how many there are, counted by hand.
func TestDepthByHand(t *testing.T) {
	d := rand.New(rand.NewSource(5))
	for round := range 200 {
		x := New()
		for range round {
			x = x.Put(api.Leaf{Path: strconv.Itoa(d.Intn(2 * round))})
			many, depth := look(t, x.root)
			if x.Len() != many || x.Depth() != depth {
				t.Fatalf("Len %d, Depth %d, want %d, %d", x.Len(), x.Depth(), many, depth)
			}
		}
	}
}

// P3.3: each of the four turns, at the fewest leaves that ask for it, puts the middle one on top.
func TestTurns(t *testing.T) {
	for _, order := range []string{"abc", "acb", "cab", "cba", "bac", "bca"} {
		x := New()
		for i := range order {
			x = x.Put(api.Leaf{Path: order[i : i+1]})
		}
		look(t, x.root)
		if x.Depth() != 2 || x.root.leaf.Path != "b" {
			t.Errorf("%s: %d deep, with %q on top", order, x.Depth(), x.root.leaf.Path)
		}
	}
}

// What Put leaves as it is, it shares: of the nodes at most two a step down are new.
func TestPutShares(t *testing.T) {
	x := New()
	for i := range 1000 {
		x = x.Put(api.Leaf{Path: strconv.Itoa(i)})
	}
	old := map[*node]bool{}
	var mark func(n *node)
	mark = func(n *node) {
		if n != nil {
			old[n] = true
			mark(n.left)
			mark(n.right)
		}
	}
	mark(x.root)
	y := x.Put(api.Leaf{Path: "new"})
	fresh := 0
	var count func(n *node)
	count = func(n *node) {
		if n != nil && !old[n] {
			fresh++
			count(n.left)
			count(n.right)
		}
	}
	count(y.root)
	if fresh > 2*y.Depth() {
		t.Errorf("%d nodes are new, of a tree that is %d deep", fresh, y.Depth())
	}
}
