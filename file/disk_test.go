package file_test

import (
	"fmt"
	"math"
	"testing"

	"wapentake/api"
	"wapentake/file"
)

// P12.2: Read tells all bytes, those that may be lost too, also of a dead disk.
func TestRead(t *testing.T) {
	f := torn()
	f.Append("d", nil)
	dead := f.Clone()
	dead.Fuse(0)
	dead.Remove("a")
	for _, g := range []*file.Files{f, dead} {
		reads(t, g, "a", 1, 2, 3, 4)
		reads(t, g, "b", 5)
		reads(t, g, "c", 6)
		reads(t, g, "d")
		for _, name := range []string{"", "e", "A", "aa", "a ", long(api.MaxPart + 1)} {
			misses(t, g, name)
		}
	}
	stands(t, f, 7, false)
	stands(t, dead, 8, true)
}

// P12.2: Names rise byte by byte, in whatever order the files came, also of a dead disk.
func TestNames(t *testing.T) {
	rising := []string{"\x00", "\x00a", " ", "-", "/", "A", "Z", "a", "a\x00", "a-b", "a/b", "aa", "ab", "b", "z", "\u00e4", "\xff", "\xff\xff"}
	for step := 1; step < len(rising); step++ {
		f := file.New()
		for i := range 3 * len(rising) {
			f.Append(rising[i*step%len(rising)], nil)
		}
		for _, name := range rising {
			f.Append(name, nil)
		}
		names(t, f, rising...)
		f.Fuse(0)
		f.Sync("a")
		names(t, f, rising...)
		names(t, f.Clone(), rising...)
		names(t, f.Crash(nil), rising...)
	}
}

// P12.2: Steps counts each call that is not refused, and nothing else.
func TestSteps(t *testing.T) {
	f := file.New()
	steps := 0
	for range 3 {
		f.Append("a", bs(1))
		f.Append("b", nil)
		f.Sync("a")
		f.Truncate("a", 0)
		f.Rename("a", "b")
		f.Rename("b", "b")
		f.Remove("b")
		steps += 7
		stands(t, f, steps, false)
	}
	f.Append("a", bs(1, 2))
	f.Read("a")
	f.Names()
	f.Steps()
	f.Dead()
	f.Fuse(5)
	f.Flip("a", 3)
	f.Crash(nil)
	f.Clone()
	stands(t, f, steps+1, false)
	if n := left(f); n != 5 {
		t.Errorf("%d steps are left of 5", n)
	}
}

// P12.2: Fuse makes the disk die at the step ahead of which there are just n more, counted from then on.
func TestFuse(t *testing.T) {
	for n := range 8 {
		f := torn()
		f.Fuse(n)
		for i := range n {
			answers(t, fmt.Sprintf("step %d of %d", i, n), f.Append("a", bs(1)), api.OK)
			stands(t, f, 7+i, false)
		}
		answers(t, fmt.Sprintf("the step behind %d", n), f.Append("a", bs(1)), api.ErrDead)
		stands(t, f, 7+n, true)
		for range 3 {
			answers(t, "one behind that", f.Append("a", bs(1)), api.ErrDead)
		}
		stands(t, f, 7+n, true)
	}
}

// P12.2: a number below 0 is no fuse, and one that is far too great is never reached.
func TestNoFuse(t *testing.T) {
	for _, n := range []int{-1, -2, math.MinInt, 1000, 1 << 40, math.MaxInt} {
		f := torn()
		f.Fuse(n)
		for range 500 {
			answers(t, fmt.Sprint("behind Fuse ", n), f.Sync("a"), api.OK)
		}
		stands(t, f, 506, false)
	}
}

// P12.2: a fuse that is set anew counts from then on, and one that is put out does no more.
func TestFuseAnew(t *testing.T) {
	for _, first := range []int{-1, 1, 2, 5} {
		for _, then := range []int{0, 1, 3, 7} {
			f := torn()
			f.Fuse(first)
			f.Sync("a")
			f.Fuse(then)
			if n := left(f); n != then {
				t.Errorf("Fuse %d, a step, Fuse %d: %d left", first, then, n)
			}
			f.Fuse(-then - 1)
			if n := left(f); n != 9 {
				t.Errorf("Fuse %d was put out, and %d are left", then, n)
			}
		}
	}
}

// P12.2: a dead disk has no fuse to be set, and stays dead.
func TestFuseOfDeadDisk(t *testing.T) {
	for _, n := range []int{-1, 0, 1, 9} {
		f := torn()
		f.Fuse(0)
		f.Remove("a")
		was := told(f)
		f.Fuse(n)
		if got := told(f); got != was {
			t.Errorf("Fuse %d of a dead disk: %s, was %s", n, got, was)
		}
		answers(t, "Sync", f.Sync("a"), api.ErrDead)
		answers(t, "Sync of its clone", f.Clone().Sync("a"), api.ErrDead)
		answers(t, "Sync behind a crash", f.Crash(nil).Sync("a"), api.OK)
	}
}

// P12.2: Flip turns one bit, from the lowest of the first byte on; what lasts and what may be lost alike, and turned again it is as it was.
func TestFlip(t *testing.T) {
	for bit := range 32 {
		f := torn()
		want := bs(1, 2, 3, 4)
		want[bit/8] ^= []byte{1, 2, 4, 8, 16, 32, 64, 128}[bit%8]
		flips(t, f, "a", bit, true)
		reads(t, f, "a", want...)
		lasts(t, f, "a", want[:2]...)
		reads(t, f, "b", 5)
		stands(t, f, 6, false)
		f.Sync("a")
		lasts(t, f, "a", want...)
		flips(t, f, "a", bit, true)
		lasts(t, f, "a", 1, 2, 3, 4)
	}
}

// P12.2: Flip tells where there is no such bit, and turns none then.
func TestFlipNone(t *testing.T) {
	f := torn()
	f.Append("d", nil)
	was := told(f)
	for _, bit := range []int{-1, -7, -8, -9, -16, 32, 33, 39, 40, 1 << 40, math.MaxInt, math.MinInt, math.MinInt + 1} {
		flips(t, f, "a", bit, false)
	}
	for _, bit := range []int{-1, 0, 7, 8} {
		flips(t, f, "d", bit, false)
		flips(t, f, "e", bit, false)
		flips(t, f, "", bit, false)
	}
	flips(t, f, "b", 8, false)
	if got := told(f); got != was {
		t.Errorf("no bit was turned, and yet: %s, was %s", got, was)
	}
}

// P12.2: Flip is no step, neither of a disk with a fuse, nor of a dead one.
func TestFlipIsNoStep(t *testing.T) {
	f := torn()
	f.Fuse(0)
	for range 4 {
		flips(t, f, "a", 0, true)
	}
	stands(t, f, 6, false)
	answers(t, "Sync", f.Sync("a"), api.ErrDead)
	flips(t, f, "a", 0, true)
	flips(t, f, "a", 31, true)
	flips(t, f, "a", 32, false)
	flips(t, f, "a", -1, false)
	flips(t, f, "q", 0, false)
	reads(t, f, "a", 0, 2, 3, 132)
	lasts(t, f, "a", 0, 2)
	stands(t, f, 7, true)
}

// crashes holds the files behind a crash against lists, and that all of it lasts.
func crashes(t *testing.T, f *file.Files, keep []int, a, b, c []byte) {
	t.Helper()
	g := f.Crash(keep)
	names(t, g, "a", "b", "c")
	for range 2 {
		reads(t, g, "a", a...)
		reads(t, g, "b", b...)
		reads(t, g, "c", c...)
		g = g.Crash(nil)
	}
}

// P12.3: of the bytes that may be lost keep's numbers are left, for the files by rising names.
func TestCrashKeeps(t *testing.T) {
	f := torn()
	f.Append("b", bs(7, 8))
	f.Append("c", bs(9))
	all, none := bs(1, 2, 3, 4), bs(1, 2)
	crashes(t, f, nil, none, bs(5), nil)
	crashes(t, f, []int{}, none, bs(5), nil)
	crashes(t, f, []int{1}, bs(1, 2, 3), bs(5), nil)
	crashes(t, f, []int{0, 1}, none, bs(5, 7), nil)
	crashes(t, f, []int{0, 0, 1}, none, bs(5), bs(6))
	crashes(t, f, []int{2, 1, 2}, all, bs(5, 7), bs(6, 9))
	crashes(t, f, []int{1, 2, 1, 5, 5}, bs(1, 2, 3), bs(5, 7, 8), bs(6))
	crashes(t, f, []int{-1, -5, math.MinInt}, none, bs(5), nil)
	crashes(t, f, []int{-3, 1, -1}, none, bs(5, 7), nil)
	crashes(t, f, []int{3, 3, 3}, all, bs(5, 7, 8), bs(6, 9))
	crashes(t, f, []int{math.MaxInt, math.MaxInt - 1, 1 << 62}, all, bs(5, 7, 8), bs(6, 9))
	// The numbers go by the names, not by when the files came, nor by what they are called on the way.
	f.Rename("b", "x")
	f.Rename("a", "b")
	f.Rename("x", "a")
	crashes(t, f, []int{2, 1, 0}, bs(5, 7, 8), bs(1, 2, 3), nil)
}

// P12.3: a crash brings a new disk, without steps, fuse and death, on which all lasts and goes on.
func TestBehindCrash(t *testing.T) {
	alive, lit, dead := torn(), torn(), torn()
	lit.Fuse(1)
	dead.Fuse(0)
	dead.Append("a", nil)
	for what, f := range map[string]*file.Files{"alive": alive, "lit": lit, "dead": dead} {
		was := told(f)
		g := f.Crash([]int{1, 0, 1})
		stands(t, g, 0, false)
		for i := range 20 {
			answers(t, what, g.Append("a", bs(9)), api.OK)
			stands(t, g, i+1, false)
		}
		lasts(t, g, "a", 1, 2, 3)
		lasts(t, g, "c", 6)
		flips(t, g, "a", 0, true)
		g.Remove("b")
		g.Rename("c", "d")
		g.Truncate("a", 1)
		g.Sync("a")
		g.Fuse(0)
		g.Remove("a")
		stands(t, g, 25, true)
		if got := told(f); got != was {
			t.Errorf("%s: %s, was %s", what, got, was)
		}
		h := f.Crash([]int{1, 0, 1})
		f.Remove("a")
		f.Append("c", bs(1))
		f.Flip("b", 0)
		f.Flip("a", 0)
		reads(t, h, "a", 1, 2, 3)
		reads(t, h, "b", 5)
		reads(t, h, "c", 6)
		lasts(t, h, "a", 1, 2, 3)
	}
	empty := file.New().Crash([]int{1, 2})
	names(t, empty)
	answers(t, "a step on an empty disk", empty.Append("a", nil), api.OK)
}

// P12.3: a clone is as the disk is, its steps, its fuse and its death too.
func TestCloneIsTheSame(t *testing.T) {
	for n := -1; n < 4; n++ {
		f := torn()
		f.Fuse(n)
		for range 5 {
			g := f.Clone()
			if told(f) != told(g) {
				t.Errorf("%s, cloned %s", told(f), told(g))
			}
			for what, step := range fiveSteps() {
				g, h := f.Clone(), f.Clone().Clone()
				answers(t, what, step(g), step(h))
				if told(g) != told(h) {
					t.Errorf("%s: %s, of a clone's clone %s", what, told(g), told(h))
				}
			}
			f.Append("b", bs(byte(n)))
		}
	}
}

// P12.3: a clone goes its own way, and so does the disk.
func TestCloneApart(t *testing.T) {
	ways := fiveSteps()
	ways["Flip"] = func(f *file.Files) api.Errno { f.Flip("a", 0); return api.OK }
	ways["Flip behind"] = func(f *file.Files) api.Errno { f.Flip("a", 31); return api.OK }
	ways["Fuse"] = func(f *file.Files) api.Errno { f.Fuse(2); return api.OK }
	ways["Fuse out"] = func(f *file.Files) api.Errno { f.Fuse(-1); return api.OK }
	ways["Death"] = func(f *file.Files) api.Errno { f.Fuse(0); f.Sync("a"); return api.OK }
	for what, way := range ways {
		f := torn()
		f.Fuse(5)
		g := f.Clone()
		was := told(f)
		answers(t, what, way(g), api.OK)
		if got := told(f); got != was {
			t.Errorf("%s of a clone: %s, was %s", what, got, was)
		}
		g = f.Clone()
		answers(t, what, way(f), api.OK)
		if got := told(g); got != was {
			t.Errorf("%s, and the clone tells %s, was %s", what, got, was)
		}
		if told(f) == was {
			t.Errorf("%s changed nothing", what)
		}
	}
}
