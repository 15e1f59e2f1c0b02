package file_test

import (
	"fmt"
	"slices"
	"strings"
	"testing"

	"wapentake/api"
	"wapentake/file"
)

// bs is a list of bytes.
func bs(l ...byte) []byte { return l }

// answers holds what a call answers against an error.
func answers(t *testing.T, what string, got, want api.Errno) {
	t.Helper()
	if got != want {
		t.Errorf("%s: %v, want %v", what, got, want)
	}
}

// refuses holds what a call answers against an error, and that it changes nothing that f tells.
func refuses(t *testing.T, what string, f *file.Files, call func() api.Errno, want api.Errno) {
	t.Helper()
	was := told(f)
	answers(t, what, call(), want)
	if got := told(f); got != was {
		t.Errorf("%s was refused, and yet:\n%s\nwas\n%s", what, got, was)
	}
}

// reads holds the bytes of a file that there is against a list.
func reads(t *testing.T, f *file.Files, name string, want ...byte) {
	t.Helper()
	if got, ok := f.Read(name); !ok || !slices.Equal(got, want) {
		t.Errorf("Read %q: %v, %v, want %v", name, got, ok, want)
	}
}

// misses holds that there is no such file.
func misses(t *testing.T, f *file.Files, name string) {
	t.Helper()
	if got, ok := f.Read(name); ok || got != nil {
		t.Errorf("Read %q: %v, %v, want none", name, got, ok)
	}
}

// lasts holds the bytes of a file that are found when nothing else is left against a list.
func lasts(t *testing.T, f *file.Files, name string, want ...byte) {
	t.Helper()
	reads(t, f.Crash(nil), name, want...)
}

// names holds what Names tells against a list.
func names(t *testing.T, f *file.Files, want ...string) {
	t.Helper()
	if got := f.Names(); !slices.Equal(got, want) {
		t.Errorf("Names: %q, want %q", got, want)
	}
}

// stands holds how many steps there were, and whether the disk is dead, against what they should be.
func stands(t *testing.T, f *file.Files, steps int, dead bool) {
	t.Helper()
	if f.Steps() != steps || f.Dead() != dead {
		t.Errorf("Steps %d, Dead %v, want %d, %v", f.Steps(), f.Dead(), steps, dead)
	}
}

// flips holds what Flip tells against a yes or no.
func flips(t *testing.T, f *file.Files, name string, bit int, want bool) {
	t.Helper()
	if got := f.Flip(name, bit); got != want {
		t.Errorf("Flip %q %d: %v, want %v", name, bit, got, want)
	}
}

// found is a disk's files as a text.
func found(f *file.Files) string {
	var b strings.Builder
	for _, name := range f.Names() {
		l, ok := f.Read(name)
		fmt.Fprintf(&b, "%q %v %v, ", name, l, ok)
	}
	return b.String()
}

// left is how many more steps there are ahead of the one at which the disk dies, or as many as are looked for; -1 of a dead one.
func left(f *file.Files) int {
	f = f.Clone()
	n := -1
	for ; !f.Dead() && n < 9; n++ {
		f.Append("left", nil)
	}
	return n
}

// told is all that a disk tells of itself, of what lasts on it, and of its fuse.
func told(f *file.Files) string {
	return fmt.Sprintf("%sof which last %s%d steps, dead %v, %d left", found(f), found(f.Crash(nil)), f.Steps(), f.Dead(), left(f))
}

// long is a name of so many bytes.
func long(n int) string { return strings.Repeat("n", n) }

// torn is a disk with the files a (1 2 last, 3 4 do not), b (5 lasts) and c (6 does not), made by six steps.
func torn() *file.Files {
	f := file.New()
	f.Append("a", bs(1, 2))
	f.Sync("a")
	f.Append("a", bs(3, 4))
	f.Append("b", bs(5))
	f.Sync("b")
	f.Append("c", bs(6))
	return f
}

// The chapter's examples.
func TestExamples(t *testing.T) {
	f := file.New()
	answers(t, "Append", f.Append("a", bs(1, 2)), api.OK)
	answers(t, "Sync", f.Sync("a"), api.OK)
	answers(t, "Append", f.Append("a", bs(3, 4)), api.OK)
	reads(t, f.Crash([]int{1}), "a", 1, 2, 3)
	reads(t, f.Crash(nil), "a", 1, 2)

	f = file.New()
	f.Fuse(1)
	answers(t, "Append", f.Append("a", bs(5)), api.OK)
	answers(t, "Sync", f.Sync("a"), api.ErrDead)
	stands(t, f, 2, true)
	answers(t, "Append", f.Append("a", bs(6)), api.ErrDead)
}

// A new disk has nothing.
func TestNew(t *testing.T) {
	f := file.New()
	names(t, f)
	stands(t, f, 0, false)
	misses(t, f, "a")
	misses(t, f, "")
	if n := left(f); n != 9 {
		t.Errorf("a new disk dies behind %d steps", n)
	}
}

// P12.1: Append makes the file, puts bytes behind it, and makes none of them last.
func TestAppend(t *testing.T) {
	f := file.New()
	answers(t, "of no bytes, anew", f.Append("a", nil), api.OK)
	reads(t, f, "a")
	names(t, f, "a")
	answers(t, "of no bytes", f.Append("a", bs()), api.OK)
	reads(t, f, "a")
	stands(t, f, 2, false)
	answers(t, "to an empty one", f.Append("a", bs(1, 2)), api.OK)
	answers(t, "behind bytes", f.Append("a", bs(3)), api.OK)
	answers(t, "of no bytes, behind some", f.Append("a", nil), api.OK)
	answers(t, "to another one", f.Append("b", bs(9, 8, 7)), api.OK)
	reads(t, f, "a", 1, 2, 3)
	reads(t, f, "b", 9, 8, 7)
	names(t, f, "a", "b")
	stands(t, f, 6, false)
	lasts(t, f, "a")
	lasts(t, f, "b")
	names(t, f.Crash(nil), "a", "b")
	answers(t, "Sync", f.Sync("a"), api.OK)
	answers(t, "behind what lasts", f.Append("a", bs(4)), api.OK)
	reads(t, f, "a", 1, 2, 3, 4)
	lasts(t, f, "a", 1, 2, 3)
}

// P12.1: names have from 1 to MaxPart bytes, whichever.
func TestNamesThatMayBe(t *testing.T) {
	good := []string{"a", long(api.MaxPart), " ", ".", "..", "a/b", "/", "\x00", "\xff\xfe", strings.Repeat("ä", api.MaxPart/2), "image.new"}
	wrong := []string{"", long(api.MaxPart + 1), long(1000), strings.Repeat("ä", api.MaxPart/2) + "b"}
	for i, name := range good {
		f := torn()
		answers(t, fmt.Sprintf("Append to %q", name), f.Append(name, bs(byte(i))), api.OK)
		if name != "a" {
			reads(t, f, name, byte(i))
		}
		f = torn()
		answers(t, fmt.Sprintf("Rename to %q", name), f.Rename("a", name), api.OK)
		reads(t, f, name, 1, 2, 3, 4)
	}
	for _, name := range wrong {
		f := torn()
		refuses(t, fmt.Sprintf("Append to %q", name), f, func() api.Errno { return f.Append(name, bs(1)) }, api.ErrArg)
		refuses(t, fmt.Sprintf("Append of no byte to %q", name), f, func() api.Errno { return f.Append(name, nil) }, api.ErrArg)
		refuses(t, fmt.Sprintf("Rename to %q", name), f, func() api.Errno { return f.Rename("a", name) }, api.ErrArg)
		misses(t, f, name)
	}
}

// P12.1: Sync makes all bytes last, of that file alone.
func TestSync(t *testing.T) {
	f := torn()
	answers(t, "Sync", f.Sync("a"), api.OK)
	stands(t, f, 7, false)
	reads(t, f, "a", 1, 2, 3, 4)
	lasts(t, f, "a", 1, 2, 3, 4)
	lasts(t, f, "c")
	answers(t, "Sync again", f.Sync("a"), api.OK)
	stands(t, f, 8, false)
	lasts(t, f, "a", 1, 2, 3, 4)
	f.Append("d", nil)
	answers(t, "Sync of an empty one", f.Sync("d"), api.OK)
	lasts(t, f, "d")
	lasts(t, f, "c")
}

// P12.1: Truncate leaves the first n bytes, and those last that lasted.
func TestTruncate(t *testing.T) {
	for n, last := range []int{0, 1, 2, 2, 2} {
		f := torn()
		answers(t, fmt.Sprint("Truncate to ", n), f.Truncate("a", n), api.OK)
		stands(t, f, 7, false)
		reads(t, f, "a", bs(1, 2, 3, 4)[:n]...)
		lasts(t, f, "a", bs(1, 2, 3, 4)[:last]...)
		reads(t, f, "b", 5)
		f.Append("a", bs(7, 8))
		reads(t, f, "a", append(bs(1, 2, 3, 4)[:n], 7, 8)...)
		lasts(t, f, "a", bs(1, 2, 3, 4)[:last]...)
		f.Sync("a")
		lasts(t, f, "a", append(bs(1, 2, 3, 4)[:n], 7, 8)...)
	}
	f := torn()
	for _, n := range []int{-1, 5, 6, 1 << 40, -1 << 40, 1<<63 - 1, -1 << 63} {
		refuses(t, fmt.Sprint("Truncate to ", n), f, func() api.Errno { return f.Truncate("a", n) }, api.ErrArg)
	}
	f.Append("d", nil)
	answers(t, "an empty one to 0", f.Truncate("d", 0), api.OK)
	refuses(t, "an empty one to 1", f, func() api.Errno { return f.Truncate("d", 1) }, api.ErrArg)
}

// P12.1: Rename calls a file otherwise, with all its bytes, those that last too; what was called so is gone.
func TestRename(t *testing.T) {
	f := torn()
	answers(t, "to a new name", f.Rename("a", "d"), api.OK)
	stands(t, f, 7, false)
	names(t, f, "b", "c", "d")
	misses(t, f, "a")
	reads(t, f, "d", 1, 2, 3, 4)
	lasts(t, f, "d", 1, 2)
	names(t, f.Crash(nil), "b", "c", "d")

	answers(t, "to one that is there", f.Rename("c", "b"), api.OK)
	names(t, f, "b", "d")
	reads(t, f, "b", 6)
	lasts(t, f, "b")
	answers(t, "to one that is there", f.Rename("d", "b"), api.OK)
	names(t, f, "b")
	reads(t, f, "b", 1, 2, 3, 4)
	lasts(t, f, "b", 1, 2)

	answers(t, "to itself", f.Rename("b", "b"), api.OK)
	stands(t, f, 10, false)
	names(t, f, "b")
	reads(t, f, "b", 1, 2, 3, 4)
	lasts(t, f, "b", 1, 2)

	f.Append("a", bs(9))
	reads(t, f, "a", 9)
	reads(t, f, "b", 1, 2, 3, 4)
	f.Append("b", bs(5))
	reads(t, f, "a", 9)
	reads(t, f, "b", 1, 2, 3, 4, 5)
}

// P12.1: Remove takes a file away, at once; one of that name that comes later has nothing of it.
func TestRemove(t *testing.T) {
	f := torn()
	answers(t, "Remove", f.Remove("a"), api.OK)
	stands(t, f, 7, false)
	names(t, f, "b", "c")
	misses(t, f, "a")
	misses(t, f.Crash([]int{9, 9, 9}), "a")
	f.Append("a", bs(7))
	reads(t, f, "a", 7)
	lasts(t, f, "a")
	for _, name := range []string{"a", "b", "c"} {
		answers(t, "Remove", f.Remove(name), api.OK)
	}
	names(t, f)
	stands(t, f, 11, false)
	names(t, f.Crash(nil))
}

// P12.1: the steps that ask for a file are refused where there is none, whatever else they are given.
func TestNone(t *testing.T) {
	f := torn()
	for _, name := range []string{"d", "", "ab", "A", "a\x00", long(api.MaxPart), long(api.MaxPart + 1)} {
		refuses(t, "Sync", f, func() api.Errno { return f.Sync(name) }, api.ErrNone)
		refuses(t, "Remove", f, func() api.Errno { return f.Remove(name) }, api.ErrNone)
		for _, n := range []int{-1, 0, 1} {
			refuses(t, "Truncate", f, func() api.Errno { return f.Truncate(name, n) }, api.ErrNone)
		}
		for _, to := range []string{"a", "z", "", long(api.MaxPart + 1), name} {
			refuses(t, "Rename", f, func() api.Errno { return f.Rename(name, to) }, api.ErrNone)
		}
	}
	f.Remove("a")
	refuses(t, "Sync of what was removed", f, func() api.Errno { return f.Sync("a") }, api.ErrNone)
	refuses(t, "Remove of what was removed", f, func() api.Errno { return f.Remove("a") }, api.ErrNone)
	f.Rename("b", "a")
	refuses(t, "Sync of what was renamed", f, func() api.Errno { return f.Sync("b") }, api.ErrNone)
	answers(t, "Sync", f.Sync("a"), api.OK)
}

// fiveSteps is one call of each of the five that torn does not refuse, by their names.
func fiveSteps() map[string]func(f *file.Files) api.Errno {
	return map[string]func(f *file.Files) api.Errno{
		"Append":      func(f *file.Files) api.Errno { return f.Append("a", bs(7, 8)) },
		"Append anew": func(f *file.Files) api.Errno { return f.Append("d", bs(7, 8)) },
		"Append of 0": func(f *file.Files) api.Errno { return f.Append("a", nil) },
		"Sync":        func(f *file.Files) api.Errno { return f.Sync("a") },
		"Truncate":    func(f *file.Files) api.Errno { return f.Truncate("a", 1) },
		"Rename":      func(f *file.Files) api.Errno { return f.Rename("a", "d") },
		"Rename over": func(f *file.Files) api.Errno { return f.Rename("a", "b") },
		"Rename same": func(f *file.Files) api.Errno { return f.Rename("a", "a") },
		"Remove":      func(f *file.Files) api.Errno { return f.Remove("a") },
	}
}

// P12.1: at the step at which the disk dies nothing is done, but that Append's bytes stand behind the file, and do not last.
func TestDyingStep(t *testing.T) {
	for what, step := range fiveSteps() {
		f := torn()
		f.Fuse(0)
		stands(t, f, 6, false)
		was, lasting := found(f), found(f.Crash(nil))
		answers(t, what, step(f), api.ErrDead)
		stands(t, f, 7, true)
		switch what {
		case "Append":
			reads(t, f, "a", 1, 2, 3, 4, 7, 8)
			lasts(t, f, "a", 1, 2)
			reads(t, f.Crash([]int{3}), "a", 1, 2, 3, 4, 7)
			names(t, f, "a", "b", "c")
		case "Append anew":
			reads(t, f, "d", 7, 8)
			lasts(t, f, "d")
			reads(t, f.Crash([]int{0, 0, 0, 1}), "d", 7)
			reads(t, f, "a", 1, 2, 3, 4)
			names(t, f, "a", "b", "c", "d")
			names(t, f.Crash(nil), "a", "b", "c", "d")
		default:
			if got := found(f); got != was {
				t.Errorf("the disk died at %s, and yet: %s, was %s", what, got, was)
			}
			if got := found(f.Crash(nil)); got != lasting {
				t.Errorf("the disk died at %s, and yet there last %s, was %s", what, got, lasting)
			}
		}
	}
	f := file.New()
	f.Fuse(0)
	answers(t, "Append of no byte, anew", f.Append("a", nil), api.ErrDead)
	reads(t, f, "a")
}

// P12.1: a dead disk takes no step, and says so ahead of all else that is wrong.
func TestDeadDisk(t *testing.T) {
	f := torn()
	f.Fuse(0)
	f.Sync("a")
	for what, step := range fiveSteps() {
		refuses(t, what, f, func() api.Errno { return step(f) }, api.ErrDead)
	}
	for _, name := range []string{"", "q", long(api.MaxPart + 1)} {
		refuses(t, "Append", f, func() api.Errno { return f.Append(name, bs(1)) }, api.ErrDead)
		refuses(t, "Sync", f, func() api.Errno { return f.Sync(name) }, api.ErrDead)
		refuses(t, "Truncate", f, func() api.Errno { return f.Truncate(name, -1) }, api.ErrDead)
		refuses(t, "Rename", f, func() api.Errno { return f.Rename(name, name) }, api.ErrDead)
		refuses(t, "Rename", f, func() api.Errno { return f.Rename("a", name) }, api.ErrDead)
		refuses(t, "Remove", f, func() api.Errno { return f.Remove(name) }, api.ErrDead)
	}
	refuses(t, "Truncate", f, func() api.Errno { return f.Truncate("a", 99) }, api.ErrDead)
	stands(t, f, 7, true)
}

// P12.1, P12.2: what is refused is no step: it neither counts, nor does it burn the fuse.
func TestRefusedIsNoStep(t *testing.T) {
	f := torn()
	f.Fuse(1)
	for range 5 {
		answers(t, "Append", f.Append("", bs(1)), api.ErrArg)
		answers(t, "Sync", f.Sync("q"), api.ErrNone)
		answers(t, "Truncate", f.Truncate("a", -1), api.ErrArg)
		answers(t, "Rename", f.Rename("a", ""), api.ErrArg)
		answers(t, "Remove", f.Remove("q"), api.ErrNone)
	}
	stands(t, f, 6, false)
	answers(t, "Sync", f.Sync("a"), api.OK)
	answers(t, "Append, refused ahead of the step", f.Append("", nil), api.ErrArg)
	stands(t, f, 7, false)
	answers(t, "Sync", f.Sync("a"), api.ErrDead)
	stands(t, f, 8, true)
}

// R7: of nil Files, and of such as no call made, steps answer ErrState, and all else nothing.
func TestNotMade(t *testing.T) {
	for what, f := range map[string]*file.Files{"nil": nil, "not made": {}} {
		for _, name := range []string{"a", "", long(api.MaxPart + 1)} {
			answers(t, what+" Append", f.Append(name, bs(1)), api.ErrState)
			answers(t, what+" Sync", f.Sync(name), api.ErrState)
			answers(t, what+" Truncate", f.Truncate(name, -1), api.ErrState)
			answers(t, what+" Rename", f.Rename(name, name), api.ErrState)
			answers(t, what+" Remove", f.Remove(name), api.ErrState)
			misses(t, f, name)
			flips(t, f, name, 0, false)
		}
		f.Fuse(0)
		names(t, f)
		stands(t, f, 0, false)
		if f.Crash([]int{1}) != nil || f.Clone() != nil {
			t.Errorf("%s: Crash %v, Clone %v", what, f.Crash([]int{1}), f.Clone())
		}
	}
}
