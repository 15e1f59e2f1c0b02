package epoch_test

import (
	"math"
	"math/rand"
	"slices"
	"testing"

	"wapentake/api"
	"wapentake/epoch"
)

// P7.4: Quorum is half, rounded down, and one, of how many there are, whoever they are.
func TestQuorum(t *testing.T) {
	for n, want := range []int{1, 1, 2, 2, 3, 3, 4, 4, 5, 5, 6, 6, 7, 7, 8, 8, 9} {
		alike := slices.Repeat([]int{7}, n)
		far := slices.Repeat([]int{math.MinInt, math.MaxInt}, n)[:n]
		for _, l := range [][]int{upTo(n), alike, far} {
			if got := epoch.Quorum(l); got != want {
				t.Errorf("Quorum %v: %d, want %d", l, got, want)
			}
		}
	}
	if epoch.Quorum([]int{}) != 1 || epoch.Quorum(make([]int, 1000001)) != 500001 {
		t.Error("Quorum of none, of very many")
	}
}

// P7.4: Most, where the chapter's words say so, and where they do not.
func TestMost(t *testing.T) {
	for _, c := range []struct {
		members, ids []int
		want         bool
	}{
		{nil, nil, false}, {nil, ids(0, 1, 2), false}, {ids(0), nil, false}, {ids(), ids(), false},
		{ids(3), ids(3), true}, {ids(3), ids(4), false}, {ids(3), ids(4, 3), true}, {ids(3), ids(4, 4), false},
		{ids(0, 1), ids(0), false}, {ids(0, 1), ids(1), false}, {ids(0, 1), ids(0, 0), false}, {ids(0, 1), ids(1, 0), true},
		{ids(0, 1, 2), ids(0), false}, {ids(0, 1, 2), ids(2, 0), true}, {ids(0, 1, 2), ids(2, 2), false}, {ids(0, 1, 2), ids(3, 2), false}, {ids(0, 1, 2), ids(2, 1, 0), true},
		{ids(0, 1, 2, 3), ids(0, 1), false}, {ids(0, 1, 2, 3), ids(0, 1, 3), true}, {ids(0, 1, 2, 3), ids(0, 1, 4, 5, 6), false},
		// Those alike count for the Quorum of members, but each once among ids.
		{ids(0, 0), ids(0), false}, {ids(0, 0), ids(0, 0), false}, {ids(0, 0, 1), ids(0), false}, {ids(0, 0, 1), ids(0, 0), false}, {ids(0, 0, 1), ids(0, 1), true}, {ids(0, 1, 0), ids(1, 1, 1, 0), true},
		{ids(0, 0, 0, 1, 2), ids(0, 1), false}, {ids(0, 0, 0, 1, 2), ids(0, 1, 2), true}, {ids(0, 0, 0, 1), ids(0, 1), false},
		// Numbers may be any, and stand in any order.
		{ids(-1, 99, math.MinInt), ids(math.MinInt, -1), true}, {ids(-1, 99, math.MinInt), ids(1, -99), false}, {ids(math.MaxInt), ids(math.MinInt), false}, {ids(9, 1, 5), ids(5, 9), true}, {ids(1 << 32), ids(0), false},
	} {
		if got := epoch.Most(c.members, c.ids); got != c.want {
			t.Errorf("Most %v, %v: %v", c.members, c.ids, got)
		}
	}
}

// plainMost is Most by the chapter's words: how many numbers are members and among ids, each counted where it stands first.
func plainMost(members, ids []int) bool {
	n := 0
	for i, m := range members {
		if !slices.Contains(members[:i], m) && slices.Contains(ids, m) {
			n++
		}
	}
	return n >= len(members)/2+1
}

// lists is all lists of the numbers ahead of n that have at most so many.
func lists(n, most int) [][]int {
	out := [][]int{nil}
	for from := 0; most > 0; most-- {
		to := len(out)
		for _, l := range out[from:to] {
			for id := range n {
				out = append(out, append(slices.Clone(l), id))
			}
		}
		from = to
	}
	return out
}

// P7.4: all pairs of short lists, with some alike, in all orders.
func TestMostOfShort(t *testing.T) {
	all := lists(4, 4)
	for _, members := range all {
		for _, l := range all {
			if got := epoch.Most(members, l); got != plainMost(members, l) {
				t.Fatalf("Most %v, %v: %v", members, l, got)
			}
		}
	}
}

// P7.5: two lists that are Most of the same members have a member in common, whatever else they have, some members alike too.
func TestMostsMeet(t *testing.T) {
	all := lists(4, 4)
	met := 0
	for _, members := range all {
		var most [][]int
		for _, l := range all {
			if epoch.Most(members, l) {
				most = append(most, l)
			}
		}
		for _, a := range most {
			for _, b := range most {
				if !meet(members, a, b) {
					t.Fatalf("%v and %v are Most of %v", a, b, members)
				}
				met++
			}
		}
	}
	if met < 10000 {
		t.Errorf("%d pairs met: too few to tell", met)
	}
}

// meet tells whether a member stands in both lists.
func meet(members, a, b []int) bool {
	return slices.ContainsFunc(members, func(m int) bool { return slices.Contains(a, m) && slices.Contains(b, m) })
}

// P7.4, P7.5: all members that may be, and lists of any numbers.
func TestMostOfMany(t *testing.T) {
	d := rand.New(rand.NewSource(7))
	draw := func(n, below int) []int {
		var l []int
		for range d.Intn(n) {
			l = append(l, d.Intn(below)-2)
		}
		return l
	}
	both := 0
	for range 20000 {
		members, a, b := draw(20, 18), draw(40, 18), draw(40, 18)
		one, two := epoch.Most(members, a), epoch.Most(members, b)
		if one != plainMost(members, a) || two != plainMost(members, b) {
			t.Fatalf("Most %v, %v: %v, %v: %v", members, a, one, b, two)
		}
		if one && two {
			both++
			if !meet(members, a, b) {
				t.Fatalf("%v and %v are Most of %v", a, b, members)
			}
		}
	}
	if both < 1000 {
		t.Errorf("%d times both were Most: too few to tell", both)
	}
}

// P7.4: of each number of members exactly a Quorum of them is enough, whichever they are.
func TestMostIsQuorum(t *testing.T) {
	for n := 1; n <= api.MaxReplicas; n++ {
		members, need := upTo(n), epoch.Quorum(upTo(n))
		for first := range n {
			turned := append(slices.Clone(members[first:]), members[:first]...)
			if !epoch.Most(members, turned[:need]) || epoch.Most(members, turned[:need-1]) {
				t.Errorf("of %d members from %d on: a Quorum is %d", n, first, need)
			}
		}
	}
}

// R1: very long lists end, too.
func TestMostOfLong(t *testing.T) {
	l := upTo(300000)
	half := l[:150000]
	if epoch.Most(l, half) || !epoch.Most(l, l[:150001]) || !epoch.Most(half, l) || epoch.Most(l, slices.Repeat(half, 3)) {
		t.Error("Most of very many")
	}
}
