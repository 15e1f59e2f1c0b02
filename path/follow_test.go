package path_test

import (
	"slices"
	"strings"
	"testing"

	"wapentake/api"
	"wapentake/path"
)

// texts is all texts of at most most bytes, of those bytes.
func texts(of string, most int) []string {
	all := []string{""}
	for from := 0; most > 0; most-- {
		upto := len(all)
		for _, s := range all[from:upto] {
			for _, c := range []byte(of) {
				all = append(all, s+string([]byte{c}))
			}
		}
		from = upto
	}
	return all
}

// plainNormal is Normal by the chapter's words, one after the other, with all parts in a list.
func plainNormal(s string) (string, bool) {
	var left []string
	for _, p := range strings.Split(s, "/") {
		if p == ".." && len(left) == 0 {
			return "", false
		}
		if p == ".." {
			left = left[:len(left)-1]
		} else if p != "" && p != "." {
			left = append(left, p)
		}
	}
	wrong := func(p string) bool {
		return len(p) > api.MaxPart || strings.Trim(p, "abcdefghijklmnopqrstuvwxyz0123456789_-.") != ""
	}
	joined := strings.Join(left, "/")
	if len(left) == 0 || len(left) > api.MaxDepth || slices.ContainsFunc(left, wrong) || len(joined) > api.MaxPath {
		return "", false
	}
	return joined, true
}

// P2.1: Normal of all short texts is what the chapter's words make of them.
func TestNormalOfAll(t *testing.T) {
	for _, s := range append(texts("a./", 9), texts("aB./-", 6)...) {
		want, _ := plainNormal(s)
		normal(t, s, want)
	}
}

// P2.3: Normal of what Normal told is that, however loosely it is written again.
func TestNormalAgain(t *testing.T) {
	long := x(24) + "/../" + x(24) + "//" + x(24) + "/./" + x(14)
	for _, s := range append(texts("a./", 8), long, "./"+deep(api.MaxDepth), x(24)+"/", "a-_.9/..a/") {
		once, ok := path.Normal(s)
		if !ok {
			continue
		}
		normal(t, once, once)
		for _, loose := range []string{"/" + once, once + "/", "./" + once, once + "/b/..", "b/../" + once} {
			normal(t, loose, once)
		}
	}
}

// plainCompare is Compare by the chapter's words: the lists of parts, held against each other.
func plainCompare(a, b string) int {
	return slices.Compare(strings.Split(a, "/"), strings.Split(b, "/"))
}

// P2.2, P2.3: Compare is an order, 0 just of the same texts.
func TestCompareIsAnOrder(t *testing.T) {
	all := texts("a-b/", 4)
	for _, a := range all {
		for _, b := range all {
			c := path.Compare(a, b)
			if c != plainCompare(a, b) {
				t.Fatalf("Compare of %q, %q: %d", a, b, c)
			}
			if (c == 0) != (a == b) || c != -path.Compare(b, a) {
				t.Fatalf("Compare of %q, %q: %d, the other way round %d", a, b, c, path.Compare(b, a))
			}
		}
	}
	some := texts("a-/", 3)
	for _, a := range some {
		for _, b := range some {
			for _, c := range some {
				if path.Compare(a, b) <= 0 && path.Compare(b, c) <= 0 && path.Compare(a, c) > 0 {
					t.Fatalf("%q, %q, %q stand in no order", a, b, c)
				}
			}
		}
	}
}

// P2.2: Within of all short texts is what the chapter's words say.
func TestWithinOfAll(t *testing.T) {
	all := texts("ab/", 5)
	for _, dir := range all {
		for _, p := range all {
			want := dir == "" || p == dir || strings.HasPrefix(p, dir+"/")
			if path.Within(dir, p) != want {
				t.Fatalf("Within of %q, %q: %v", dir, p, !want)
			}
		}
	}
}

// P2.3: in order, those within a path stand one behind the other, the path itself first.
func TestWithinStandsTogether(t *testing.T) {
	row := texts("a-.\x00/", 4)
	slices.SortFunc(row, path.Compare)
	for at, dir := range row {
		if dir == "" {
			continue // all is within it
		}
		end := at
		for end < len(row) && path.Within(dir, row[end]) {
			end++
		}
		if end == at {
			t.Fatalf("%q is not within itself", dir)
		}
		for i, p := range row {
			if path.Within(dir, p) != (at <= i && i < end) {
				t.Fatalf("%q, which is within %q, does not stand with the others", p, dir)
			}
		}
	}
	if row[0] != "" {
		t.Errorf("the empty text, within which all is, is not the first: %q", row[0])
	}
}

// No text makes a call panic; what Normal tells is a path, and a name is one.
func FuzzPath(f *testing.F) {
	f.Add("a//b/./c", "a/../b")
	f.Add("\xff/../é", "")
	f.Fuzz(func(t *testing.T, a, b string) {
		want, _ := plainNormal(a)
		normal(t, a, want)
		if got := path.Compare(a, b); got != plainCompare(a, b) {
			t.Errorf("Compare of %q, %q: %d", a, b, got)
		}
		if path.Within(a, b) != (a == "" || a == b || strings.HasPrefix(b, a+"/")) {
			t.Errorf("Within of %q, %q: %v", a, b, path.Within(a, b))
		}
		if got, ok := path.Normal(a); path.Name(a) && (!ok || got != a) {
			t.Errorf("the name %q is not its own path: %q", a, got)
		}
	})
}
