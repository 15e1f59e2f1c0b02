package path_test

import (
	"strings"
	"testing"
	"unsafe"

	"wapentake/api"
	"wapentake/path"
)

// x is a part of n bytes.
func x(n int) string { return strings.Repeat("x", n) }

// deep is a path of n parts.
func deep(n int) string { return strings.TrimSuffix(strings.Repeat("a/", n), "/") }

// normal holds what Normal tells of s against a path; an empty one is for false, which goes with an empty text.
func normal(t *testing.T, s, want string) {
	t.Helper()
	if got, ok := path.Normal(s); got != want || ok != (want != "") {
		t.Errorf("Normal of %.99q: %q, %v, want %q", s, got, ok, want)
	}
}

// P2.1: empty parts and "." are left out, wherever they stand.
func TestNormalLeavesOut(t *testing.T) {
	normal(t, "a", "a")
	normal(t, "a/b/c", "a/b/c")
	normal(t, "a//b/./c", "a/b/c")
	normal(t, "/a", "a")
	normal(t, "a/", "a")
	normal(t, "///a///", "a")
	normal(t, "./a", "a")
	normal(t, "a/.", "a")
	normal(t, ".//././a/.//b/./", "a/b")
}

// P2.1: ".." takes away the last part that is there, whatever that one is.
func TestNormalTakesAway(t *testing.T) {
	normal(t, "a/../b", "b")
	normal(t, "a/b/..", "a")
	normal(t, "a/b/../..//c", "c")
	normal(t, "a/./..//b", "b")
	normal(t, "a/b/c/../d/../../e", "a/e")
	normal(t, "A/../b", "b")
	normal(t, "a b/../b", "b")
	normal(t, x(25)+"/../b", "b")
	normal(t, x(999)+"/../b", "b")
}

// P2.1: false, where ".." has nothing to take away, even if parts follow.
func TestNormalTakesTooMuch(t *testing.T) {
	for _, s := range []string{"..", "../a", "/../a", "./../a", "a/../../b", "a/../..", "a/b/../../../c/d"} {
		normal(t, s, "")
	}
}

// P2.1: false, where no part is left.
func TestNormalNothingLeft(t *testing.T) {
	for _, s := range []string{"", "/", "///", ".", "./", "/.", "./.", "a/..", "a/b/../..", "/a/.././/"} {
		normal(t, s, "")
	}
}

// P2.1: MaxDepth parts may be left, not one more; what was taken away does not count.
func TestNormalDepth(t *testing.T) {
	most := deep(api.MaxDepth)
	normal(t, most, most)
	normal(t, most+"/./", most)
	normal(t, most+"/b", "")
	normal(t, deep(2*api.MaxDepth), "")
	normal(t, most+"/b/..", most)
	normal(t, most+"/b/c/d/../../..", most)
	normal(t, most+"/b/c/../..//d", "")
	normal(t, most+"/b/../../c", deep(api.MaxDepth-1)+"/c")
	normal(t, most+"/B/../../c", deep(api.MaxDepth-1)+"/c")
	normal(t, deep(999)+strings.Repeat("/..", 998), "a")
	normal(t, deep(999)+strings.Repeat("/..", 999), "")
	normal(t, deep(999)+strings.Repeat("/..", 1000)+"/a", "")
}

// P2.1: a part has MaxPart bytes, not one more, wherever it stands.
func TestNormalPart(t *testing.T) {
	most := x(api.MaxPart)
	normal(t, most, most)
	normal(t, "a/"+most, "a/"+most)
	normal(t, most+"/a", most+"/a")
	normal(t, most+"x", "")
	normal(t, "a/"+most+"x", "")
	normal(t, most+"x/a", "")
	normal(t, strings.Repeat(".", api.MaxPart), strings.Repeat(".", api.MaxPart))
	normal(t, strings.Repeat(".", api.MaxPart+1), "")
}

// P2.1: the path has MaxPath bytes, not one more; what was left out does not count.
func TestNormalLength(t *testing.T) {
	long := x(api.MaxPart) + "/" + x(api.MaxPart) + "/"
	most := long + x(api.MaxPath-len(long))
	normal(t, most, most)
	normal(t, most+"x", "")
	normal(t, "./"+most+"//", most)
	normal(t, most+"/a", "")
	normal(t, most+"/a/..", most)
	normal(t, long+x(api.MaxPart), "")
	eight := strings.Repeat(x(7)+"/", api.MaxDepth-1) + x(8)
	normal(t, eight, eight)
	normal(t, eight+"x", "")
}

// P2.1, P2.2: of every byte, whether it may stand in a part, and in a name: first, last, in between, alone.
func TestBytes(t *testing.T) {
	const name = "abcdefghijklmnopqrstuvwxyz0123456789_-"
	for c := range 256 {
		b := string([]byte{byte(c)})
		for _, s := range []string{b + "ab", "a" + b + "b", "ab" + b, b} {
			in := strings.Contains(name, b)
			if got := path.Name(s); got != in {
				t.Errorf("Name of %q: %v", s, got)
			}
			switch {
			case in || b == "." && s != b:
				normal(t, s, s)
				normal(t, "a/"+s, "a/"+s)
				normal(t, s+"/a", s+"/a")
			case b == "." || b == "/": // they stand for something else
			default:
				normal(t, s, "")
				normal(t, "a/"+s, "")
				normal(t, s+"/a", "")
			}
		}
	}
}

// P2.1: parts that merely look like "." and "..".
func TestNormalDots(t *testing.T) {
	for _, s := range []string{"...", "..a", "a..", ".a", "a.", "a/...", ".../a", "a.b", "-", "_", "..../.a"} {
		normal(t, s, s)
	}
	normal(t, "a/.../..", "a")
}

// P2.2: Name's edges; a name has no dot.
func TestName(t *testing.T) {
	for s, want := range map[string]bool{
		"": false, "a": true, "a-_9": true, "-": true, "0": true, "a.b": false, ".": false, "..": false, "a/b": false, "/": false,
		"A": false, "a b": false, " ": false, "é": false, "\x00": false, "a\n": false, "\xff": false,
		x(api.MaxPart): true, x(api.MaxPart + 1): false, x(9999): false,
	} {
		if got := path.Name(s); got != want {
			t.Errorf("Name of %.40q: %v, want %v", s, got, want)
		}
	}
}

// P2.2: Within's edges: dir itself, what is in it, what merely begins like it; dir is taken as it stands.
func TestWithin(t *testing.T) {
	for _, c := range []struct {
		dir, p string
		want   bool
	}{
		{"", "", true}, {"", "x", true}, {"", "/", true}, {"", "A b//", true},
		{"a", "a", true}, {"a", "a/b", true}, {"a", "a/b/c", true}, {"a", "a/", true}, {"a", "a//", true},
		{"a", "", false}, {"a", "b", false}, {"a", "ab", false}, {"a", "a-b", false}, {"a", "a\x00", false}, {"a", "/a", false}, {"a", "b/a", false}, {"a", "A", false},
		{"a/b", "a", false}, {"a/b", "a/", false}, {"a/b", "a/b", true}, {"a/b", "a/b/c", true}, {"a/b", "a/bc", false}, {"a/b", "a/c", false}, {"a/b", "a//b", false},
		{"a/", "a/", true}, {"a/", "a", false}, {"a/", "a/b", false}, {"a/", "a//b", true},
		{"/", "/", true}, {"/", "//", true}, {"/", "/a", false}, {"/", "", false}, {"/", "a", false},
	} {
		if got := path.Within(c.dir, c.p); got != c.want {
			t.Errorf("Within of %q, %q: %v", c.dir, c.p, got)
		}
	}
}

// P2.2: Compare, at a row of texts that stand in order: by parts first, then by bytes.
func TestCompare(t *testing.T) {
	row := []string{
		"", "/", "//", "//a", "/\x00", "/a", "/a/b", "/b", "\x00", "\x00/", "\x00\x00", "A", "a", "a/", "a//", "a//b", "a/a", "a/ab", "a/b", "a/b/c", "a/b/c/d",
		"a/b-", "a/bc", "a/c", "a\x00", "a\x00/b", "a-", "a-/b", "a-b", "a.b", "a0", "aa", "ab", "ab/c", "abc", "b", "b/a", "z", "\x7f", "\x80", "é", "\xff", "\xff\xff",
	}
	for i, a := range row {
		for k, b := range row {
			want := 0
			if i < k {
				want = -1
			} else if i > k {
				want = 1
			}
			if got := path.Compare(a, b); got != want {
				t.Errorf("Compare of %q, %q: %d, want %d", a, b, got, want)
			}
		}
	}
}

// P2.2: Compare of long texts, of many parts and of one, which differ at the end alone.
func TestCompareLong(t *testing.T) {
	for _, s := range []string{strings.Repeat("a/", 100000), x(200000), strings.Repeat("/", 200000)} {
		for _, c := range []struct {
			a, b string
			want int
		}{{s, s, 0}, {s, s + "a", -1}, {s + "a", s, 1}, {s + "a", s + "b", -1}, {s + "/", s + "a", -1}, {s + "b", s + "a/b", 1}} {
			if got := path.Compare(c.a, c.b); got != c.want {
				t.Errorf("Compare of texts of %d and %d bytes: %d, want %d", len(c.a), len(c.b), got, c.want)
			}
		}
	}
}

// R4: what Normal tells is new memory, even where it is the text that was handed in, or a piece of it.
func TestNormalIsNew(t *testing.T) {
	for _, s := range []string{"abc", "abc/", "abc/de"} {
		got, ok := path.Normal(s)
		if !ok || unsafe.StringData(got) == unsafe.StringData(s) {
			t.Errorf("Normal of %q: %q, in that text's own memory", s, got)
		}
	}
}

// R1: calls end at long texts, too.
func TestNormalLong(t *testing.T) {
	for _, s := range []string{"/", "./", "a/../", "B/../"} {
		normal(t, strings.Repeat(s, 100000)+"a", "a")
		normal(t, strings.Repeat(s, 100000), "")
	}
	normal(t, strings.Repeat("../", 100000), "")
	normal(t, x(1<<20), "")
}
