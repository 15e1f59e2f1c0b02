package file_test

import (
	"bytes"
	"math"
	"slices"
	"testing"
	"unsafe"

	"wapentake/api"
	"wapentake/file"
)

// room is a list of what l has, with nines in its spare room.
func room(l ...byte) []byte {
	return append(append(make([]byte, 0, len(l)+4), l...), 9, 9, 9, 9)[:len(l)]
}

// spoil writes over a list, its spare room too.
func spoil[T any](l []T, with T) {
	l = l[:cap(l)]
	for i := range l {
		l[i] = with
	}
}

// R4: the bytes that Append is given stay as they were, spare room too, and are not kept.
func TestAppendLeavesItsBytes(t *testing.T) {
	for _, name := range []string{"a", "d", "", long(api.MaxPart + 1)} {
		for _, fuse := range []int{-1, 0, 1} {
			f := torn()
			f.Fuse(fuse)
			l := room(7, 8)
			f.Append(name, l)
			f.Append(name, bs(3, 3, 3))
			f.Flip(name, 0)
			f.Sync(name)
			if want := bs(7, 8, 9, 9, 9, 9); !bytes.Equal(l[:cap(l)], want) {
				t.Errorf("Append to %q: its bytes are %v, were %v", name, l[:cap(l)], want)
			}
			was := told(f)
			spoil(l, 66)
			if got := told(f); got != was {
				t.Errorf("Append to %q keeps its bytes: %s, was %s", name, got, was)
			}
		}
	}
}

// R4: one list that is appended to many files is in none of them.
func TestAppendOfOneList(t *testing.T) {
	f := file.New()
	l := room(1, 2, 3)
	for _, name := range []string{"a", "b", "c"} {
		f.Append(name, l)
	}
	f.Append("a", bs(4))
	f.Append("b", bs(5))
	f.Flip("c", 0)
	reads(t, f, "a", 1, 2, 3, 4)
	reads(t, f, "b", 1, 2, 3, 5)
	reads(t, f, "c", 0, 2, 3)
}

// R4: what Read tells is new memory, spare room too: who writes over it, or puts more behind it, changes nothing, nor does it change when the file does.
func TestReadIsNew(t *testing.T) {
	for size := range 70 {
		f := file.New()
		for i := range size {
			f.Append("a", bs(byte(i)))
		}
		was := told(f)
		one, _ := f.Read("a")
		two, _ := f.Read("a")
		spoil(append(one, 1), 66)
		spoil(one, 77)
		if got := told(f); got != was {
			t.Fatalf("what Read told was written over: %s, was %s", got, was)
		}
		f.Append("a", bs(200))
		f.Flip("a", 0)
		f.Truncate("a", 0)
		f.Append("a", bytes.Repeat(bs(55), 70))
		for i, b := range two {
			if b != byte(i) {
				t.Fatalf("what Read told changed: %v", two)
			}
		}
		spoil(two, 88)
		reads(t, f, "a", bytes.Repeat(bs(55), 70)...)
	}
}

// R4: what Names tells is new memory, too.
func TestNamesIsNew(t *testing.T) {
	f := torn()
	one, two := f.Names(), f.Names()
	spoil(append(one, "y"), "x")
	spoil(one, "x")
	names(t, f, "a", "b", "c")
	f.Remove("a")
	f.Append("d", nil)
	names(t, f, "b", "c", "d")
	if !slices.Equal(two, []string{"a", "b", "c"}) {
		t.Errorf("what Names told changed: %q", two)
	}
}

// R4: the numbers that Crash is given stay as they were, spare room too.
func TestCrashLeavesItsNumbers(t *testing.T) {
	l := append(make([]int, 0, 6), -4, math.MaxInt, 1, 5, 6, 7)[:3]
	f := torn()
	g := f.Crash(l)
	if !slices.Equal(l[:6], []int{-4, math.MaxInt, 1, 5, 6, 7}) {
		t.Errorf("Crash changed its numbers: %v", l[:6])
	}
	was := told(g)
	spoil(l, 9)
	if got := told(g); got != was {
		t.Errorf("Crash keeps its numbers: %s, was %s", got, was)
	}
}

// R4: nothing is shared with a crash or a clone, however much room there is behind the bytes.
func TestNothingIsShared(t *testing.T) {
	for size := 1; size < 40; size++ {
		f := file.New()
		f.Append("a", make([]byte, size))
		f.Sync("a")
		f.Append("a", bs(1, 2))
		disks := []*file.Files{f, f.Clone(), f.Crash([]int{1}), f.Crash([]int{2}), f.Clone().Crash(nil), f.Crash([]int{9}).Clone(), f.Clone()}
		var want [][]byte
		for i, g := range disks {
			b, _ := g.Read("a")
			for range 9 {
				b = append(b, byte(100+i))
			}
			b[i%len(b)] ^= 128
			want = append(want, b)
		}
		for range 9 {
			for i, g := range disks {
				answers(t, "Append", g.Append("a", bs(byte(100+i))), api.OK)
			}
		}
		for i, g := range disks {
			flips(t, g, "a", i%len(want[i])*8+7, true)
		}
		for i, g := range disks {
			reads(t, g, "a", want[i]...)
		}
	}
}

// R4: what a Truncate cut off does not come back, nor is what is left shared with anything.
func TestTruncateLeavesNothing(t *testing.T) {
	f := file.New()
	f.Append("a", bs(1, 2, 3, 4, 5, 6, 7, 8))
	f.Sync("a")
	read, _ := f.Read("a")
	g := f.Clone()
	f.Truncate("a", 2)
	h := f.Clone()
	f.Append("a", bs(9))
	h.Append("a", bs(8))
	reads(t, f, "a", 1, 2, 9)
	reads(t, h, "a", 1, 2, 8)
	reads(t, g, "a", 1, 2, 3, 4, 5, 6, 7, 8)
	lasts(t, f, "a", 1, 2)
	if !bytes.Equal(read, bs(1, 2, 3, 4, 5, 6, 7, 8)) {
		t.Errorf("what Read told changed: %v", read)
	}
}

// R4: names that are handed in are not kept: neither a new file's, nor one's that is there, nor one's that is called anew.
func TestNamesAreCopied(t *testing.T) {
	var memory [][]byte
	text := func(s string) string {
		b := []byte(s)
		memory = append(memory, b)
		return unsafe.String(unsafe.SliceData(b), len(b))
	}
	f := file.New()
	f.Append(text("new"), bs(1))
	f.Append("there", bs(2))
	f.Append(text("there"), bs(3))
	f.Sync(text("there"))
	f.Truncate(text("there"), 2)
	f.Append("x", bs(4))
	f.Rename(text("x"), text("named"))
	f.Append("x", bs(5))
	f.Rename("x", "over")
	f.Append("x", bs(6))
	f.Rename("x", text("over"))
	f.Append("same", bs(7))
	same := text("same")
	f.Rename(same, same)
	f.Append(text("gone"), nil)
	f.Remove(text("gone"))
	for _, m := range memory {
		spoil(m, 'q')
	}
	for _, g := range []*file.Files{f, f.Clone(), f.Crash(slices.Repeat([]int{9}, 5))} {
		names(t, g, "named", "new", "over", "same", "there")
		reads(t, g, "new", 1)
		reads(t, g, "there", 2, 3)
		reads(t, g, "named", 4)
		reads(t, g, "over", 6)
		reads(t, g, "same", 7)
	}
}

// R1: calls end, and none panics, at numbers, texts and lists that are as far out as may be.
func TestFarOut(t *testing.T) {
	numbers := []int{math.MinInt, math.MinInt + 1, -1 << 40, -8, -1, 0, 1, 8, 1 << 31, 1 << 40, math.MaxInt - 1, math.MaxInt}
	texts := []string{"", "a", "\xff", long(24), long(25), long(1 << 20)}
	for _, n := range numbers {
		f, p := torn(), plainTorn()
		for _, name := range texts {
			for _, to := range texts {
				for _, call := range []string{"Append", "Truncate", "Flip", "Rename", "Sync", "Remove"} {
					step{call: call, name: name, to: to, n: n, bytes: bs(1)}.take(t, f, &p)
				}
				tellsAs(t, f, p, slices.Repeat([]int{n}, 4), nil)
			}
		}
		f.Fuse(n)
		if n > 8 && left(f) != 9 || n < 0 && left(f) != 9 || n >= 0 && n <= 8 && left(f) != n {
			t.Errorf("Fuse %d: %d steps are left", n, left(f))
		}
	}
	f := torn()
	answers(t, "Append", f.Append("a", make([]byte, 1<<24)), api.OK)
	g := f.Crash(make([]int, 1<<20))
	lasts(t, g, "a", 1, 2)
	if b, _ := f.Crash([]int{1 << 23}).Read("a"); len(b) != 2+1<<23 {
		t.Errorf("%d bytes are left", len(b))
	}
}

// plainTorn is torn as a plain disk.
func plainTorn() plainDisk {
	return plainDisk{steps: 6, files: map[string][]plainByte{
		"a": {{1, true}, {2, true}, {3, false}, {4, false}},
		"b": {{5, true}},
		"c": {{6, false}},
	}}
}
