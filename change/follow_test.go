package change_test

import (
	"math"
	"slices"
	"strings"
	"testing"

	"wapentake/api"
	"wapentake/change"
	"wapentake/path"
)

// plainCheck is Check by the chapter's words, one after the other.
func plainCheck(l []api.Change) api.Errno {
	if len(l) < 1 || len(l) > api.MaxChanges {
		return api.ErrArg
	}
	seen := map[string]int{}
	for _, c := range l {
		if p, ok := path.Normal(c.Path); !ok || p != c.Path {
			return api.ErrArg
		}
		if seen[c.Path]++; seen[c.Path] > 1 {
			return api.ErrArg
		}
		if c.Gone && c.Digest != 0 {
			return api.ErrArg
		}
	}
	return api.OK
}

// plainSorted is Sorted by the chapter's words: each change goes behind all those that it is not ahead of.
func plainSorted(l []api.Change) []api.Change {
	var out []api.Change
	for _, c := range l {
		at := 0
		for at < len(out) && path.Compare(out[at].Path, c.Path) <= 0 {
			at++
		}
		out = slices.Insert(out, at, c)
	}
	return out
}

// plainSame is Same by the chapter's words.
func plainSame(a, b []api.Change) bool {
	if len(a) != len(b) {
		return false
	}
	for i, x := range a {
		if x.Path != b[i].Path || x.Gone != b[i].Gone || x.Digest != b[i].Digest {
			return false
		}
	}
	return true
}

// lists is all lists of at most most of those changes, with repeats.
func lists(of []api.Change, most int) [][]api.Change {
	all := [][]api.Change{nil}
	for from := 0; most > 0; most-- {
		upto := len(all)
		for _, l := range all[from:upto] {
			for _, c := range of {
				all = append(all, append(slices.Clone(l), c))
			}
		}
		from = upto
	}
	return all
}

// some is changes that may be, and such that may not.
func some() []api.Change {
	return []api.Change{
		{Path: "b", Digest: 1}, {Path: "b", Gone: true}, {Path: "b", Gone: true, Digest: 1}, {Path: "a-b", Digest: math.MaxUint64}, {Path: "a"},
		{Path: "a/b", Digest: 1}, {Path: "a/"}, {Path: "", Digest: 1}, {Path: "..", Gone: true},
	}
}

// rising tells whether each path is ahead of the next one.
func rising(l []api.Change) bool {
	for i := 1; i < len(l); i++ {
		if path.Compare(l[i-1].Path, l[i].Path) != -1 {
			return false
		}
	}
	return true
}

// follows holds a list against all that the chapter says of it.
func follows(t *testing.T, l []api.Change) {
	t.Helper()
	was, s := change.Check(l), change.Sorted(l)
	if was != plainCheck(l) {
		t.Fatalf("Check of %v: %v", l, was)
	}
	if !slices.Equal(s, plainSorted(l)) {
		t.Fatalf("Sorted of %v: %v", l, s)
	}
	if now := change.Check(s); now != was {
		t.Fatalf("Check of %v: %v, and sorted: %v", l, was, now)
	}
	if was == api.OK && !rising(s) {
		t.Fatalf("Sorted of %v: %v, which does not rise", l, s)
	}
	if !change.Same(l, l) || !change.Same(s, change.Sorted(s)) {
		t.Fatalf("of %v: not the same as itself, or not when it is sorted again", l)
	}
}

// P4.1, P4.2: all short lists, right and wrong ones.
func TestAllLists(t *testing.T) {
	for _, l := range lists(some(), 5) {
		follows(t, l)
	}
}

// P4.1: Same of all pairs of short lists.
func TestSameOfAll(t *testing.T) {
	all := lists(some(), 3)
	for _, a := range all {
		for _, b := range all {
			if change.Same(a, b) != plainSame(a, b) {
				t.Fatalf("Same of %v, %v: %v", a, b, change.Same(a, b))
			}
		}
	}
}

// P4.2: Sorted of MaxChanges changes that Check takes rises and is taken, in whichever order they came: one list of the same changes, told alike.
func TestSortedIsTaken(t *testing.T) {
	row := puts("0", "a", "a/b", "a/b/c", "a/b-", "a-b", "a-b/c", "a.b", "ab", "ab/c", "b", "b/a", "b/b", "c", "c-", "z")
	for i := range row {
		row[i].Gone, row[i].Digest = i%3 == 0, uint64(i%3)
	}
	if len(row) != api.MaxChanges {
		t.Fatalf("%d changes", len(row))
	}
	for step := 1; step < 2*len(row); step += 2 { // an odd step meets all of the sixteen
		for from := range row {
			var l []api.Change
			for i := range row {
				l = append(l, row[(from+i*step)%len(row)])
			}
			check(t, l, api.OK)
			follows(t, l)
			if !change.Same(change.Sorted(l), row) {
				t.Fatalf("Sorted of %v: %v", l, change.Sorted(l))
			}
		}
	}
}

// R1: calls end at long lists and long paths, too.
func TestLong(t *testing.T) {
	long := strings.Repeat("a/", 10000)
	var l []api.Change
	for i := range 1000 {
		l = append(l, api.Change{Path: long[:2*(i*7919%1000)], Digest: uint64(i)})
	}
	l = append(l, puts(long+"b", long+"a", long)...)
	check(t, l, api.ErrArg)
	check(t, l[len(l)-3:], api.ErrArg)
	if s := change.Sorted(l); !rising(s) || len(s) != len(l) {
		t.Errorf("Sorted of long paths does not rise")
	}
	big := many(100000)
	if !rising(change.Sorted(big)) || !change.Same(big, slices.Clone(big)) {
		t.Errorf("many changes are not sorted, or not the same as they are")
	}
}

// listOf reads a text as changes: a line each, with a mark ahead of the path.
func listOf(s string) []api.Change {
	var l []api.Change
	for line := range strings.SplitSeq(s, "\n") {
		switch {
		case strings.HasPrefix(line, "!"):
			l = append(l, api.Change{Path: line[1:], Gone: true})
		case strings.HasPrefix(line, "?"):
			l = append(l, api.Change{Path: line[1:], Gone: true, Digest: 1})
		default:
			l = append(l, api.Change{Path: line, Digest: uint64(len(l))})
		}
	}
	return l
}

// No list makes a call panic, and all that the chapter says holds of it.
func FuzzChange(f *testing.F) {
	f.Add("b\na\n!a/b", "b\na\n!a/b")
	f.Add("b\nb\n?c", "")
	f.Add("\xff/../é\n\n!", "!")
	f.Fuzz(func(t *testing.T, a, b string) {
		l, m := listOf(a), listOf(b)
		follows(t, l)
		follows(t, append(l, m...))
		if change.Same(l, m) != plainSame(l, m) {
			t.Errorf("Same of %v, %v: %v", l, m, change.Same(l, m))
		}
	})
}
