package change_test

import (
	"fmt"
	"math"
	"slices"
	"strings"
	"testing"
	"unsafe"

	"wapentake/api"
	"wapentake/change"
)

// put is a change of p to something.
func put(p string) api.Change { return api.Change{Path: p, Digest: 7} }

// puts is such changes, one of each path.
func puts(paths ...string) []api.Change {
	var l []api.Change
	for _, p := range paths {
		l = append(l, put(p))
	}
	return l
}

// many is n changes that may be, each of its own path, in no order.
func many(n int) []api.Change {
	var l []api.Change
	for i := range n {
		l = append(l, put(fmt.Sprintf("p%d/q%d", i*7%n, i)))
	}
	return l
}

// check holds what Check tells of l against an error.
func check(t *testing.T, l []api.Change, want api.Errno) {
	t.Helper()
	if got := change.Check(l); got != want {
		t.Errorf("Check of %.200q: %v, want %v", fmt.Sprint(l), got, want)
	}
}

// sorted holds what Sorted tells of l against a list.
func sorted(t *testing.T, l, want []api.Change) {
	t.Helper()
	if got := change.Sorted(l); !slices.Equal(got, want) {
		t.Errorf("Sorted of %.200q: %.200q, want %.200q", fmt.Sprint(l), fmt.Sprint(got), fmt.Sprint(want))
	}
}

// The chapter's examples.
func TestExamples(t *testing.T) {
	check(t, nil, api.ErrArg)
	check(t, []api.Change{{Path: "a/../b"}}, api.ErrArg)
	check(t, []api.Change{{Path: "b", Gone: true, Digest: 5}}, api.ErrArg)
	check(t, []api.Change{{Path: "b"}, {Path: "a"}}, api.OK)
}

// P4.1: from one change to MaxChanges of them, not none, not one more.
func TestCheckMany(t *testing.T) {
	check(t, nil, api.ErrArg)
	check(t, []api.Change{}, api.ErrArg)
	check(t, many(3)[:0], api.ErrArg)
	for n := 1; n <= api.MaxChanges; n++ {
		check(t, many(n), api.OK)
	}
	for _, n := range []int{api.MaxChanges + 1, api.MaxChanges + 2, 2 * api.MaxChanges, 256, 1000} {
		check(t, many(n), api.ErrArg)
	}
	check(t, many(api.MaxChanges + 1)[:api.MaxChanges], api.OK)
}

// P4.1: a path that path.Normal says just so.
func TestCheckPath(t *testing.T) {
	x := strings.Repeat("x", api.MaxPart)
	for _, p := range []string{
		"a", "a/b", "a-b", "a.b", "a_9", "...", ".a", "..a", "a..", "-", "0", x, x + "/" + x + "/" + x[:14],
		strings.Repeat("a/", api.MaxDepth-1) + "a",
	} {
		check(t, puts(p), api.OK)
	}
}

// wrongPaths is paths that path.Normal says otherwise, and then such that it does not take.
func wrongPaths() []string {
	x := strings.Repeat("x", api.MaxPart)
	return []string{
		"/a", "a/", "//a", "a//b", "a/b//", "./a", "a/.", "a/./b", "a/../b", "a/b/..", "a/b/../c", "A/../a", x + "x/../a", "a/../a",
		"", "/", "//", ".", "./", "..", "../a", "a/..", "a/../..", "a/../../b", "A", "a/B", "a b", "a\x00", "a\n", "é", "\xff", "a:b", "a\\b", "*",
		x + "x", "a/" + x + "x", x + "/" + x + "/" + x[:15], strings.Repeat("a/", api.MaxDepth) + "a", strings.Repeat("a", 1<<20), strings.Repeat("a/", 1<<20),
	}
}

// P4.1: a wrong path is refused, alone and wherever it stands among right ones, be it gone or not.
func TestCheckWrongPath(t *testing.T) {
	for _, p := range wrongPaths() {
		for _, c := range []api.Change{{Path: p}, {Path: p, Digest: 7}, {Path: p, Gone: true}} {
			check(t, []api.Change{c}, api.ErrArg)
			for _, n := range []int{2, 5, api.MaxChanges} {
				for _, at := range []int{0, n / 2, n - 1} {
					l := many(n)
					l[at] = c
					check(t, l, api.ErrArg)
				}
			}
		}
	}
}

// P4.1: two of one path are refused, side by side and far apart, whatever else they have.
func TestCheckTwice(t *testing.T) {
	for n := 2; n <= api.MaxChanges; n++ {
		for i := range n {
			for k := range i {
				for _, c := range []api.Change{{}, {Digest: 7}, {Digest: 8}, {Gone: true}} {
					l := many(n)
					c.Path = l[k].Path
					l[i] = c
					check(t, l, api.ErrArg)
				}
			}
		}
	}
	check(t, []api.Change{{Path: "a", Gone: true}, {Path: "a", Gone: true}}, api.ErrArg)
	check(t, puts("a", "a", "a"), api.ErrArg)
	check(t, slices.Repeat(puts("a"), api.MaxChanges), api.ErrArg)
}

// P4.1: paths that are merely near each other are not one path; what two have but the path may be alike.
func TestCheckNear(t *testing.T) {
	check(t, puts("a", "a/b", "a/b/c", "ab", "a-b", "a.b", "aa", "b", "b/a", "a-", "-a", "..a", "a.."), api.OK)
	check(t, []api.Change{{Path: "a", Gone: true}, {Path: "a/b", Gone: true}, {Path: "b"}, {Path: "c"}}, api.OK)
}

// P4.1: one that is gone has the digest 0; any other has any.
func TestCheckGone(t *testing.T) {
	for _, d := range []uint64{0, 1, 5, 1 << 32, 1 << 63, math.MaxUint64} {
		gone := api.Change{Path: "b", Gone: true, Digest: d}
		want := api.ErrArg
		if d == 0 {
			want = api.OK
		}
		check(t, []api.Change{gone}, want)
		check(t, []api.Change{{Path: "b", Digest: d}}, api.OK)
		for at := range api.MaxChanges {
			l := many(api.MaxChanges)
			l[at] = gone
			check(t, l, want)
			l[at].Gone = false
			check(t, l, api.OK)
		}
	}
}

// P4.1: a list that is wrong in several ways at once is refused as others are.
func TestCheckAllWrong(t *testing.T) {
	bad := api.Change{Path: "../A", Gone: true, Digest: 9}
	for _, n := range []int{1, 2, api.MaxChanges, api.MaxChanges + 1, 1000} {
		check(t, slices.Repeat([]api.Change{bad}, n), api.ErrArg)
	}
}

// P4.1: Sorted goes by path.Compare, which is by parts, not by the bytes of the whole.
func TestSortedByParts(t *testing.T) {
	row := puts("", "/", "/a", "A", "a", "a/", "a/b", "a/b/c", "a/b-", "a\x00", "a-b", "a-b/c", "a.b", "ab", "ab/c", "b", "\xff")
	for _, step := range []int{1, 2, 3, 5, 7, 11, 16} { // each has no divisor in common with 17
		var l []api.Change
		for i := range row {
			l = append(l, row[i*step%len(row)])
		}
		sorted(t, l, row)
	}
	back := slices.Clone(row)
	slices.Reverse(back)
	sorted(t, back, row)
}

// P4.1: several of one path keep their order, in short lists and in long ones.
func TestSortedKeepsOrder(t *testing.T) {
	a1, a2, a3 := api.Change{Path: "a", Digest: 9}, api.Change{Path: "a", Gone: true}, api.Change{Path: "a", Digest: 1}
	b1, b2 := api.Change{Path: "b", Digest: 4}, api.Change{Path: "b", Gone: true, Digest: 3}
	sorted(t, []api.Change{b1, a1, b2, a2, a3}, []api.Change{a1, a2, a3, b1, b2})
	sorted(t, []api.Change{a3, b2, a2, b1, a1}, []api.Change{a3, a2, a1, b2, b1})
	sorted(t, []api.Change{a2, a1, a2}, []api.Change{a2, a1, a2})
	for _, n := range []int{5, 12, 16, 20, 50, 300, 5000} {
		var l []api.Change
		for i := range n {
			l = append(l, api.Change{Path: fmt.Sprint("p", i*i%5), Digest: uint64(i), Gone: i%3 == 0})
		}
		s := change.Sorted(l)
		if len(s) != n {
			t.Fatalf("Sorted of %d changes: %d", n, len(s))
		}
		for i := 1; i < n; i++ {
			if s[i-1].Path > s[i].Path || s[i-1].Path == s[i].Path && s[i-1].Digest >= s[i].Digest {
				t.Fatalf("Sorted of %d changes: %v stands ahead of %v", n, s[i-1], s[i])
			}
		}
		for _, c := range s {
			if c != l[c.Digest] {
				t.Fatalf("Sorted of %d changes: %v is none of them", n, c)
			}
		}
	}
}

// P4.1: Sorted takes what Check refuses, and keeps each field as it is.
func TestSortedOfAny(t *testing.T) {
	sorted(t, nil, nil)
	sorted(t, []api.Change{}, nil)
	sorted(t, many(4)[:0], nil)
	for _, p := range wrongPaths() {
		for _, c := range []api.Change{{Path: p}, {Path: p, Digest: math.MaxUint64}, {Path: p, Gone: true}, {Path: p, Gone: true, Digest: 5}} {
			sorted(t, []api.Change{c}, []api.Change{c})
		}
	}
	sorted(t, puts("b/../a", "a/..", "a", "../a", "a"), puts("../a", "a", "a", "a/..", "b/../a"))
	for _, n := range []int{api.MaxChanges, api.MaxChanges + 1, 1000} {
		if got := change.Sorted(many(n)); len(got) != n {
			t.Errorf("Sorted of %d changes: %d", n, len(got))
		}
	}
}

// same holds what Same tells of two lists, either way round, against a bool.
func same(t *testing.T, a, b []api.Change, want bool) {
	t.Helper()
	if change.Same(a, b) != want || change.Same(b, a) != want {
		t.Errorf("Same of %.100q, %.100q: %v, the other way round %v", fmt.Sprint(a), fmt.Sprint(b), change.Same(a, b), change.Same(b, a))
	}
}

// P4.1: nil and an empty list are the same, and no other list is the same as they.
func TestSameOfNone(t *testing.T) {
	same(t, nil, nil, true)
	same(t, nil, []api.Change{}, true)
	same(t, nil, many(3)[:0], true)
	same(t, many(3)[:0], many(3)[3:], true)
	for _, l := range [][]api.Change{{{}}, {{}, {}}, puts("a"), many(api.MaxChanges)} {
		same(t, nil, l, false)
		same(t, []api.Change{}, l, false)
	}
}

// P4.1: lists of unlike lengths are not the same, even where one is the beginning of the other.
func TestSameOfLengths(t *testing.T) {
	l := many(20)
	for n := range len(l) + 1 {
		for m := range len(l) + 1 {
			same(t, l[:n], l[:m], n == m)
			same(t, slices.Clone(l[:n]), l[:m:m], n == m)
		}
	}
	same(t, make([]api.Change, 3), make([]api.Change, 4), false)
}

// P4.1: lists that are unlike in one field of one change are not the same, wherever that one stands.
func TestSameOfFields(t *testing.T) {
	for _, n := range []int{1, 2, 7, api.MaxChanges, 100} {
		for at := range n {
			a, b := many(n), many(n)
			same(t, a, b, true)
			b[at].Gone = true
			same(t, a, b, false)
			a[at].Gone = true
			same(t, a, b, true)
			b[at].Digest ^= 1 << 63
			same(t, a, b, false)
			b[at].Digest = a[at].Digest
			b[at].Path += "/"
			same(t, a, b, false)
		}
	}
}

// P4.1: Same holds the changes against each other as they stand: neither sorted, nor brought into the form that they might have.
func TestSameAsTheyStand(t *testing.T) {
	same(t, puts("a", "b"), puts("b", "a"), false)
	same(t, puts("a", "a", "b"), puts("a", "b", "b"), false)
	same(t, puts("a/b"), puts("a//b"), false)
	same(t, puts("A"), puts("a"), false)
	same(t, []api.Change{{Path: "a", Gone: true}}, []api.Change{{Path: "a"}}, false)
	same(t, puts("../a", "", "../a"), puts("../a", "", "../a"), true)
	same(t, []api.Change{{Path: "a", Gone: true, Digest: 5}}, []api.Change{{Path: "a", Gone: true, Digest: 5}}, true)
	same(t, puts(strings.Repeat("x", 9)), puts("xxx"+strings.Repeat("xxx", 2)), true)
}

// spoilt is what the tests write over memory that should be nobody else's.
var spoilt = api.Change{Path: "spoilt", Gone: true, Digest: 99}

// roomy is a list of those changes with something in its spare room.
func roomy(l []api.Change) []api.Change {
	return append(append(make([]api.Change, 0, len(l)+5), l...), slices.Repeat([]api.Change{spoilt}, 5)...)[:len(l)]
}

// R4: what is handed in stays as it was, spare room too.
func TestHandedInStays(t *testing.T) {
	for _, l := range [][]api.Change{nil, puts("b", "a"), puts("b", "a", "b", "a"), puts("z//", "..", "a"), many(api.MaxChanges), many(100)} {
		a, b := roomy(l), roomy(l)
		change.Check(a)
		change.Sorted(a)
		change.Same(a, b)
		for _, x := range [][]api.Change{a, b} {
			if !slices.Equal(x, l) || !slices.Equal(x[len(x):cap(x)], slices.Repeat([]api.Change{spoilt}, cap(x)-len(x))) {
				t.Errorf("a list of %d changes was changed: %v", len(l), x[:cap(x)])
			}
		}
	}
}

// R4: what Sorted tells is new memory, spare room too, where nothing was to be moved as well.
func TestSortedIsNew(t *testing.T) {
	for _, l := range [][]api.Change{nil, puts("a"), puts("a", "b", "c"), puts("c", "b", "a"), puts("b", "a", "b"), many(100)} {
		in := roomy(l)
		one, two := change.Sorted(in), change.Sorted(in)
		want := slices.Clone(two)
		for i := range one[:cap(one)] {
			one[:cap(one)][i] = api.Change{Path: "mine"}
		}
		if !slices.Equal(two, want) {
			t.Errorf("who wrote into one answer for %d changes changed another", len(l))
		}
		if !slices.Equal(in, l) || !slices.Equal(in[len(in):cap(in)], slices.Repeat([]api.Change{spoilt}, 5)) {
			t.Errorf("who wrote into the answer for %d changes changed what was handed in", len(l))
		}
		for i := range in[:cap(in)] {
			in[:cap(in)][i] = spoilt
		}
		if !slices.Equal(two, want) {
			t.Errorf("who wrote into the %d changes that were handed in changed the answer", len(l))
		}
	}
}

// R4: an answer's paths are not pieces of the texts that were handed in.
func TestSortedPathsAreNew(t *testing.T) {
	text := []byte("bbb/aaa")
	s := change.Sorted([]api.Change{put(unsafe.String(&text[0], 3)), put(unsafe.String(&text[4], 3))})
	copy(text, "zzz/zzz")
	if !slices.Equal(s, puts("aaa", "bbb")) {
		t.Errorf("the text was changed, and the answer with it: %v", s)
	}
}
