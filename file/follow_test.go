package file_test

import (
	"bytes"
	"fmt"
	"maps"
	"math/rand"
	"slices"
	"testing"

	"wapentake/api"
	"wapentake/file"
)

// plainByte is a byte, and whether it lasts.
type plainByte struct {
	b     byte
	lasts bool
}

// plainDisk is a disk by the chapter's words: each byte tells by itself whether it lasts, and the step at which the disk dies is told ahead.
type plainDisk struct {
	files map[string][]plainByte
	steps int
	dies  int // which step it dies at; 0: at none
	dead  bool
}

// clone is the disk, apart from it.
func (p plainDisk) clone() plainDisk {
	files := map[string][]plainByte{}
	for name, l := range p.files {
		files[name] = slices.Clone(l)
	}
	p.files = files
	return p
}

// names is the files' names, rising.
func (p plainDisk) names() []string { return slices.Sorted(maps.Keys(p.files)) }

// read is a file's bytes.
func (p plainDisk) read(name string) []byte {
	var out []byte
	for _, x := range p.files[name] {
		out = append(out, x.b)
	}
	return out
}

// crash is Crash.
func (p plainDisk) crash(keep []int) plainDisk {
	out := plainDisk{files: map[string][]plainByte{}}
	for i, name := range p.names() {
		out.files[name] = nil
		lost := 0
		for _, x := range p.files[name] {
			if !x.lasts {
				if i >= len(keep) || lost >= keep[i] {
					break
				}
				lost++
			}
			out.files[name] = append(out.files[name], plainByte{x.b, true})
		}
	}
	return out
}

// wrong is why a step is refused by its own errors.
func (p plainDisk) wrong(s step) api.Errno {
	named := func(name string) bool { return 1 <= len(name) && len(name) <= 24 }
	_, there := p.files[s.name]
	if s.call == "Append" && !named(s.name) {
		return api.ErrArg
	}
	if s.call != "Append" && !there {
		return api.ErrNone
	}
	if s.call == "Truncate" && (s.n < 0 || s.n > len(p.files[s.name])) {
		return api.ErrArg
	}
	if s.call == "Rename" && !named(s.to) {
		return api.ErrArg
	}
	return api.OK
}

// act does what a step asks.
func (p plainDisk) act(s step) {
	switch s.call {
	case "Append":
		p.put(s)
	case "Sync":
		for i := range p.files[s.name] {
			p.files[s.name][i].lasts = true
		}
	case "Truncate":
		p.files[s.name] = p.files[s.name][:s.n]
	case "Rename":
		l := p.files[s.name]
		delete(p.files, s.name)
		p.files[s.to] = l
	case "Remove":
		delete(p.files, s.name)
	}
}

// put is Append's bytes.
func (p plainDisk) put(s step) {
	l := slices.Clone(p.files[s.name])
	for _, b := range s.bytes {
		l = append(l, plainByte{b: b})
	}
	p.files[s.name] = l
}

// do is a step, or Fuse or Flip, which answer OK where they have no error to tell.
func (p *plainDisk) do(s step) api.Errno {
	switch s.call {
	case "Fuse":
		if p.dies = 0; s.n >= 0 {
			p.dies = p.steps + 1 + s.n
		}
		return api.OK
	case "Flip":
		if l := p.files[s.name]; s.n >= 0 && s.n < 8*len(l) {
			l[s.n/8].b ^= 1 << (s.n % 8)
			return api.OK
		}
		return api.ErrNone
	}
	if p.dead {
		return api.ErrDead
	}
	if e := p.wrong(s); e != api.OK {
		return e
	}
	p.steps++
	if p.steps != p.dies {
		p.act(s)
		return api.OK
	}
	p.dead = true
	if s.call == "Append" {
		p.put(s)
	}
	return api.ErrDead
}

// step is a call that may change a disk.
type step struct {
	call, name, to string
	n              int
	bytes          []byte
}

// do is what the disk answers to it; Flip's false is ErrNone.
func (s step) do(f *file.Files) api.Errno {
	switch s.call {
	case "Append":
		return f.Append(s.name, s.bytes)
	case "Sync":
		return f.Sync(s.name)
	case "Truncate":
		return f.Truncate(s.name, s.n)
	case "Rename":
		return f.Rename(s.name, s.to)
	case "Remove":
		return f.Remove(s.name)
	case "Fuse":
		f.Fuse(s.n)
	case "Flip":
		if !f.Flip(s.name, s.n) {
			return api.ErrNone
		}
	}
	return api.OK
}

// take does s with a disk and with a plain one, and holds what they answer against each other.
func (s step) take(t *testing.T, f *file.Files, p *plainDisk) {
	t.Helper()
	if got, want := s.do(f), p.do(s); got != want {
		t.Fatalf("%.300s: %v, want %v", fmt.Sprintf("%+v", s), got, want)
	}
}

// hasAs holds the files of a disk against those of a plain one.
func hasAs(t *testing.T, what string, f *file.Files, p plainDisk) {
	t.Helper()
	if got := f.Names(); !slices.Equal(got, p.names()) {
		t.Fatalf("%s: names %q, want %q", what, got, p.names())
	}
	for _, name := range p.names() {
		if got, ok := f.Read(name); !ok || !bytes.Equal(got, p.read(name)) {
			t.Fatalf("%s: Read %q: %v, %v, want %v", what, name, got, ok, p.read(name))
		}
	}
}

// tellsAs holds all that f tells against the plain disk, behind crashes too.
func tellsAs(t *testing.T, f *file.Files, p plainDisk, keeps ...[]int) {
	t.Helper()
	hasAs(t, "the disk", f, p)
	if f.Steps() != p.steps || f.Dead() != p.dead {
		t.Fatalf("Steps %d, Dead %v, want %d, %v", f.Steps(), f.Dead(), p.steps, p.dead)
	}
	for _, keep := range keeps {
		g := f.Crash(keep)
		what := fmt.Sprint("behind a crash that keeps ", keep)
		hasAs(t, what, g, p.crash(keep))
		hasAs(t, what+" and one that keeps nothing", g.Crash(nil), p.crash(keep))
		if g.Steps() != 0 || g.Dead() {
			t.Fatalf("%s: %d steps, dead %v", what, g.Steps(), g.Dead())
		}
	}
	hasAs(t, "the disk behind all crashes", f, p)
}

// someSteps is calls that meet, of two names that may be.
func someSteps() []step {
	return []step{
		{call: "Append", name: "a", bytes: bs(1, 2)},
		{call: "Append", name: "b", bytes: bs(3)},
		{call: "Append", name: "a"},
		{call: "Append", name: ""},
		{call: "Sync", name: "a"},
		{call: "Sync", name: "b"},
		{call: "Truncate", name: "a", n: 1},
		{call: "Truncate", name: "b", n: 0},
		{call: "Truncate", name: "a", n: 3},
		{call: "Rename", name: "a", to: "b"},
		{call: "Rename", name: "b", to: "a"},
		{call: "Rename", name: "a", to: "a"},
		{call: "Rename", name: "b", to: ""},
		{call: "Remove", name: "a"},
		{call: "Fuse", n: 0},
		{call: "Fuse", n: 1},
		{call: "Fuse", n: -1},
		{call: "Flip", name: "a", n: 8},
	}
}

// P12.1 to P12.3: all rows of a few calls, each upon a clone, answer and tell what the chapter's words say.
func TestAllRows(t *testing.T) {
	all := someSteps()
	var walk func(f *file.Files, p plainDisk, more int)
	walk = func(f *file.Files, p plainDisk, more int) {
		for _, s := range all {
			g, q := f.Clone(), p.clone()
			s.take(t, g, &q)
			tellsAs(t, g, q, nil, []int{1})
			if more > 0 {
				walk(g, q, more-1)
			}
		}
		tellsAs(t, f, p, []int{0, 1})
	}
	walk(file.New(), plainDisk{files: map[string][]plainByte{}}, 3)
}

// drawn is a call of names that meet.
func drawn(d *rand.Rand) step {
	all := []string{"a", "b", "ab", "b/a", "\xff"}
	s := step{name: all[d.Intn(len(all))], to: all[d.Intn(len(all))], n: d.Intn(20) - 1}
	s.call = []string{"Append", "Append", "Append", "Sync", "Truncate", "Rename", "Remove", "Flip", "Flip"}[d.Intn(9)]
	s.bytes = make([]byte, d.Intn(7))
	d.Read(s.bytes)
	switch d.Intn(40) {
	case 0:
		s.name = ""
	case 1:
		s.to = long(25)
	case 2:
		s.call, s.n = "Fuse", d.Intn(30)
	}
	return s
}

// keepDrawn is numbers for a crash.
func keepDrawn(d *rand.Rand) []int {
	l := make([]int, d.Intn(7))
	for i := range l {
		l[i] = d.Intn(12) - 2
	}
	return l
}

// P12.1 to P12.3: long rows, which go on behind crashes, clones and deaths.
func TestLongRows(t *testing.T) {
	deaths := 0
	for seed := range 60 {
		d := rand.New(rand.NewSource(int64(seed)))
		f, p := file.New(), plainDisk{files: map[string][]plainByte{}}
		for range 400 {
			drawn(d).take(t, f, &p)
			tellsAs(t, f, p, keepDrawn(d))
			if d.Intn(50) == 0 {
				f, p = f.Clone(), p.clone()
			}
			if keep := keepDrawn(d); p.dead && d.Intn(3) == 0 {
				f, p = f.Crash(keep), p.crash(keep)
				deaths++
			}
		}
	}
	if deaths < 100 {
		t.Errorf("%d deaths: the rows tell little", deaths)
	}
}

// P12.4: what lasts is found behind any crash, until it is truncated, renamed, removed or turned; and of each file a beginning is found of what Read told.
func TestWhatLastsIsFound(t *testing.T) {
	for seed := range 60 {
		d := rand.New(rand.NewSource(int64(seed)))
		f := file.New()
		lasting := map[string][]byte{} // what Sync made last, and nothing took away since
		for range 300 {
			s := drawn(d)
			if s.call == "Flip" && d.Intn(9) > 0 {
				continue
			}
			was, _ := f.Read(s.name)
			if e := s.do(f); e == api.OK {
				follow(f, s, was, lasting)
			}
			for name, l := range lasting {
				if got, ok := f.Read(name); !ok || !bytes.HasPrefix(got, l) {
					t.Fatalf("%+v: Read %q: %v, %v, and %v lasts", s, name, got, ok, l)
				}
			}
			g := f.Crash(keepDrawn(d))
			for _, name := range f.Names() {
				read, _ := f.Read(name)
				got, ok := g.Read(name)
				if !ok || !bytes.HasPrefix(got, lasting[name]) || !bytes.HasPrefix(read, got) {
					t.Fatalf("%+v: behind a crash %q is %v, %v; it was %v, of which %v lasts", s, name, got, ok, read, lasting[name])
				}
			}
			if d.Intn(20) == 0 || f.Dead() {
				f = g
				clear(lasting)
				for _, name := range f.Names() {
					lasting[name], _ = f.Read(name)
				}
			}
		}
	}
}

// follow keeps what lasts by what the chapter says of a step that was OK.
func follow(f *file.Files, s step, was []byte, lasting map[string][]byte) {
	switch s.call {
	case "Sync":
		lasting[s.name] = was
	case "Truncate":
		lasting[s.name] = lasting[s.name][:min(s.n, len(lasting[s.name]))]
	case "Rename":
		l := lasting[s.name]
		delete(lasting, s.name)
		lasting[s.to] = l
	case "Remove":
		delete(lasting, s.name)
	case "Flip":
		now, _ := f.Read(s.name)
		lasting[s.name] = now[:len(lasting[s.name])]
	}
}

// P12.4: at whichever step of a row the disk dies, and whatever is left, all that was synced ahead of it is found.
func TestDeathAtEachStep(t *testing.T) {
	row := func(f *file.Files) int {
		synced := 0
		for i := range 10 {
			if f.Append("log", bs(byte(i), byte(i))) != api.OK || f.Sync("log") != api.OK {
				return synced
			}
			synced += 2
		}
		return synced
	}
	for n := range 22 {
		f := file.New()
		f.Fuse(n)
		synced := row(f)
		if want := n / 2 * 2; synced != min(want, 20) {
			t.Errorf("%d bytes were synced by %d steps", synced, n)
		}
		for keep := -1; keep < 4; keep++ {
			got, _ := f.Crash([]int{keep}).Read("log")
			if more := len(got) - synced; more < 0 || more != min(max(keep, 0), len(mustRead(t, f, "log"))-synced) {
				t.Errorf("dead at step %d, %d kept: %d bytes are found, %d were synced", n, keep, len(got), synced)
			}
			for i, b := range got {
				if int(b) != i/2 {
					t.Errorf("dead at step %d, %d kept: %v", n, keep, got)
				}
			}
		}
	}
}

// mustRead is the bytes of a file; none, if the disk died ahead of it.
func mustRead(t *testing.T, f *file.Files, name string) []byte {
	t.Helper()
	l, ok := f.Read(name)
	if !ok && f.Steps() > 1 {
		t.Fatalf("no file %q", name)
	}
	return l
}

// rowOf reads bytes as steps, three each.
func rowOf(b []byte) []step {
	calls := []string{"Append", "Sync", "Truncate", "Rename", "Remove", "Fuse", "Flip", "Append"}
	all := []string{"a", "b", "c", "", long(24), long(25), "a/b", "\xff"}
	var l []step
	for ; len(b) > 2; b = b[3:] {
		s := step{call: calls[b[0]%8], name: all[b[0]/8%8], to: all[b[1]%8], n: int(int8(b[2]))}
		s.bytes = b[:b[1]/8%4]
		l = append(l, s)
	}
	return l
}

// No row of calls makes one panic, and all that the chapter says holds of it.
func FuzzFiles(f *testing.F) {
	f.Add([]byte{0, 16, 0, 1, 0, 0, 0, 24, 0, 6, 0, 9}, int8(1), int8(-1))
	f.Add([]byte{5, 0, 2, 0, 24, 0, 1, 0, 0, 3, 1, 0, 9, 1, 1}, int8(99), int8(0))
	f.Fuzz(func(t *testing.T, b []byte, first, second int8) {
		x, p := file.New(), plainDisk{files: map[string][]plainByte{}}
		keep := []int{int(first), int(second)}
		for _, s := range rowOf(b[:min(len(b), 600)]) {
			y, was := x.Clone(), p.clone()
			s.take(t, x, &p)
			tellsAs(t, y, was)
			tellsAs(t, x, p, keep)
		}
		x, p = x.Crash(keep), p.crash(keep)
		tellsAs(t, x, p, nil)
	})
}
