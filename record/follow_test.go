package record_test

import (
	"bytes"
	"fmt"
	"math/rand"
	"slices"
	"testing"

	"wapentake/api"
	"wapentake/file"
	"wapentake/record"
)

// someAppends is what a row of Appends brings, one list each.
func someAppends() [][][]byte {
	return [][][]byte{rs("a"), rs("bc", "", "d"), {nil}, nil, rs("e", "f"), {sized(130)}, rs("g")}
}

// run creates a log and appends to it, until a call is refused: the records of the Appends that were OK, those of the one that was not, and whether there was an Append at all.
func run(t *testing.T, f *file.Files, name string) (sure, last [][]byte, appended bool) {
	t.Helper()
	l, e := record.Create(f, name)
	if e != api.OK {
		return nil, nil, false
	}
	for _, list := range someAppends() {
		if e := l.Append(list...); e != api.OK {
			tells(t, "a log behind an Append that was refused", l, sure)
			return sure, list, true
		}
		sure = append(sure, list...)
	}
	tells(t, "a log", l, sure)
	return sure, nil, true
}

// sameAs tells whether records are alike.
func sameAs(a, b [][]byte) bool { return slices.EqualFunc(a, b, bytes.Equal) }

// P13.4: at whichever step the disk dies, and whatever is left, Open has all records of the Appends that were OK, in order, and of the other one all or none; and the log goes on.
func TestDeathAtEachStep(t *testing.T) {
	none, all := 0, 0
	for fuse := range 16 {
		f := file.New()
		f.Fuse(fuse)
		sure, last, appended := run(t, f, "log")
		b, there := f.Read("log")
		if !there {
			t.Fatalf("fuse %d: there is no file: Append makes it, whatever becomes of the step", fuse)
		}
		for keep := -1; keep <= len(b)+1; keep++ {
			g := f.Crash([]int{keep})
			what := fmt.Sprintf("fuse %d, keep %d", fuse, keep)
			l := opened(t, g, "log")
			got := l.All()
			switch whole := slices.Concat(sure, last); {
			case appended && len(last) > 0 && sameAs(got, whole):
				all++
			case sameAs(got, sure):
				none++
			default:
				t.Fatalf("%s: %q, want %q or %q", what, got, sure, whole)
			}
			answers(t, what, l.Append([]byte("more"), nil), api.OK)
			got = append(got, []byte("more"), nil)
			tells(t, what+", and more", l, got)
			tells(t, what+", and more, behind a crash", opened(t, g.Crash(nil), "log"), got)
		}
	}
	if none < 100 || all < 7 {
		t.Errorf("none %d times, all %d times: the rows tell little", none, all)
	}
}

// P13.4: Open itself may die, at each of its steps, again and again: nothing is lost.
func TestDeathInOpen(t *testing.T) {
	for fuse := 3; fuse < 14; fuse++ {
		f := file.New()
		f.Fuse(fuse)
		sure, last, _ := run(t, f, "log")
		b, _ := f.Read("log")
		for keep := range len(b) + 1 {
			want := opened(t, f.Crash([]int{keep}), "log").All()
			for dies := range 2 {
				for again := range 3 {
					g := f.Crash([]int{keep})
					g.Fuse(dies)
					what := fmt.Sprintf("fuse %d, keep %d, Open dies at %d, keep %d", fuse, keep, dies, again)
					l, e := record.Open(g, "log")
					if whole := g.Steps() == 0; whole {
						answers(t, what, e, api.OK)
					} else {
						refused(t, what, l, e, api.ErrDead)
					}
					tells(t, what, opened(t, g.Crash([]int{again}), "log"), want)
				}
			}
			if !sameAs(want, sure) && !sameAs(want, slices.Concat(sure, last)) {
				t.Fatalf("fuse %d, keep %d: %q, want %q or %q", fuse, keep, want, sure, slices.Concat(sure, last))
			}
		}
	}
}

// P13.4: a Create that dies over a log leaves that log, or no file, or a log without records.
func TestDeathInCreateOver(t *testing.T) {
	for fuse := range 4 {
		f := holding("log", frame(t, rs("old")))
		f.Fuse(fuse)
		_, e := record.Create(f, "log")
		if want := fuse < 3; (e == api.ErrDead) != want {
			t.Errorf("fuse %d: %v", fuse, e)
		}
		for keep := range 3 {
			what := fmt.Sprintf("fuse %d, keep %d", fuse, keep)
			l := opened(t, f.Crash([]int{keep}), "log")
			if fuse == 0 {
				tells(t, what, l, rs("old"))
			} else {
				tells(t, what, l, nil)
			}
		}
	}
}

// turnedAnywhere holds that with any one bit of the file turned Open is ErrSpoilt, and takes no step.
func turnedAnywhere(t *testing.T, what string, f *file.Files) {
	t.Helper()
	b, _ := f.Read("log")
	for _, g := range []*file.Files{f.Clone(), f.Crash(nil)} {
		steps := g.Steps()
		for bit := range 8 * len(b) {
			if !g.Flip("log", bit) {
				t.Fatalf("%s: there is no bit %d: it may be lost", what, bit)
			}
			l, e := record.Open(g, "log")
			refused(t, fmt.Sprintf("%s, bit %d", what, bit), l, e, api.ErrSpoilt)
			g.Flip("log", bit)
		}
		if g.Steps() != steps {
			t.Errorf("%s: %d steps", what, g.Steps()-steps)
		}
	}
}

// P13.4: one bit turned anywhere behind a Create, an Open or an Append that was OK is ErrSpoilt.
func TestTurnedAnywhere(t *testing.T) {
	f := file.New()
	l := created(t, f, "log")
	turnedAnywhere(t, "Create", f)
	for i, list := range someAppends() {
		answers(t, "Append", l.Append(list...), api.OK)
		turnedAnywhere(t, fmt.Sprint("Append ", i), f)
		opened(t, f, "log")
		turnedAnywhere(t, fmt.Sprint("Open ", i), f)
	}
	for cut := range 30 {
		g := f.Clone()
		b, _ := g.Read("log")
		g.Truncate("log", len(b)-cut)
		opened(t, g, "log")
		turnedAnywhere(t, fmt.Sprintf("Open of a file that was torn by %d", cut), g)
	}
	created(t, f, "log")
	turnedAnywhere(t, "Create over it", f)
}

// pair is a log, and a plain one of the same calls.
type pair struct {
	l *record.Log
	p *plainLog
}

// pairs is a disk with its logs, and a plain one with the same steps.
type pairs struct {
	f, g *file.Files
	logs []pair
}

// keep holds what a call that makes a log answers against the plain one, and has both from then on.
func (x *pairs) keep(t *testing.T, what string, l *record.Log, e api.Errno, p *plainLog, want api.Errno) {
	t.Helper()
	if e != want || (l != nil) != (e == api.OK) {
		t.Fatalf("%s: %v, a log %v, want %v", what, e, l != nil, want)
	}
	if e == api.OK {
		x.logs = append(x.logs, pair{l, p})
	}
}

// crash goes on with what a crash leaves.
func (x *pairs) crash(keep []int) {
	x.f, x.g, x.logs = x.f.Crash(keep), x.g.Crash(keep), nil
}

// both does the same to both disks.
func (x *pairs) both(do func(f *file.Files)) {
	do(x.f)
	do(x.g)
}

// nameDrawn is a name; now and then one that may not be.
func nameDrawn(d *rand.Rand) string {
	if d.Intn(40) == 0 {
		return []string{"", "a name that is far too long"}[d.Intn(2)]
	}
	return []string{"a", "a", "b", "ab"}[d.Intn(4)]
}

// bytesDrawn is frames, one of them cut; now and then they are no lists.
func bytesDrawn(d *rand.Rand) []byte {
	b := slices.Concat(framed(listed(recordsDrawn(d))), framed(listed(recordsDrawn(d))))
	if d.Intn(8) == 0 {
		b = framed([]byte{byte(d.Intn(3)), 0})
	}
	return b[:d.Intn(len(b)+1)]
}

// take does one drawn call.
func (x *pairs) take(t *testing.T, d *rand.Rand) {
	t.Helper()
	if x.f.Dead() && d.Intn(6) == 0 {
		x.crash([]int{d.Intn(40), d.Intn(40), d.Intn(40)})
	}
	name, n := nameDrawn(d), d.Intn(2000)
	switch d.Intn(40) {
	case 0, 1:
		l, e := record.Create(x.f, name)
		p, want := plainCreate(x.g, name)
		x.keep(t, "Create "+name, l, e, p, want)
	case 2, 3, 4, 5, 6, 7, 8:
		l, e := record.Open(x.f, name)
		p, want := plainOpen(x.g, name)
		x.keep(t, "Open "+name, l, e, p, want)
	case 9:
		x.both(func(f *file.Files) { f.Fuse(n % 16) })
	case 10, 11:
		b := bytesDrawn(d)
		x.both(func(f *file.Files) { f.Append(name, b) })
	case 12:
		x.both(func(f *file.Files) { f.Flip(name, n) })
	default:
		x.appendDrawn(t, d)
	}
}

// appendDrawn appends drawn records to a drawn log, now and then more than may be.
func (x *pairs) appendDrawn(t *testing.T, d *rand.Rand) {
	t.Helper()
	if len(x.logs) == 0 {
		return
	}
	c := x.logs[d.Intn(len(x.logs))]
	list := recordsDrawn(d)
	if d.Intn(60) == 0 {
		list = append(list, make([]byte, api.MaxBody-4+d.Intn(2)))
		if d.Intn(8) > 0 {
			list = append(list, make([]byte, 9))
		}
	}
	if got, want := c.l.Append(list...), c.p.put(list); got != want {
		t.Fatalf("Append of %d records: %v, want %v", len(list), got, want)
	}
}

// check holds all that is told against the plain ones.
func (x *pairs) check(t *testing.T) {
	t.Helper()
	for _, c := range x.logs {
		tells(t, "a log", c.l, c.p.records)
	}
	if !slices.Equal(x.f.Names(), x.g.Names()) || x.f.Steps() != x.g.Steps() || x.f.Dead() != x.g.Dead() {
		t.Fatalf("files %q, %d steps, dead %v, want %q, %d, %v", x.f.Names(), x.f.Steps(), x.f.Dead(), x.g.Names(), x.g.Steps(), x.g.Dead())
	}
	for i, f := range []*file.Files{x.f, x.f.Crash(nil)} {
		g := []*file.Files{x.g, x.g.Crash(nil)}[i]
		for _, name := range f.Names() {
			got, _ := f.Read(name)
			if want, _ := g.Read(name); !bytes.Equal(got, want) {
				t.Fatalf("%q is %.300v, want %.300v", name, got, want)
			}
		}
	}
}

// P13.1 to P13.3: long rows of calls, with several logs of the same files, on disks that die and are turned.
func TestLongRows(t *testing.T) {
	dead, steps := 0, 0
	for seed := range 80 {
		d := rand.New(rand.NewSource(int64(seed)))
		x := &pairs{f: file.New(), g: file.New()}
		for range 300 {
			was := x.f.Steps()
			x.take(t, d)
			x.check(t)
			if t.Failed() {
				t.Fatalf("seed %d", seed)
			}
			if x.f.Dead() {
				dead++
			}
			if x.f.Steps() > was {
				steps++
			}
			if len(x.logs) > 6 {
				x.logs = x.logs[1:]
			}
		}
	}
	if dead < 1500 || steps < 8000 {
		t.Errorf("%d calls on dead disks, %d that took steps: the rows tell little", dead, steps)
	}
}

// R5: calls with alike inputs answer alike, however the logs came to be what they are.
func TestAlike(t *testing.T) {
	rows := func() string {
		f := file.New()
		f.Fuse(11)
		l, e := record.Create(f, "log")
		out := fmt.Sprint(e)
		for _, list := range someAppends() {
			e = l.Append(list...)
			b, wrong := record.Frame(list)
			all, n, odd := record.Scan(b)
			out += fmt.Sprint(e, l.All(), l.Len(), b, wrong, all, n, odd)
		}
		_, e = record.Open(f, "log")
		o, well := record.Open(f.Crash([]int{3}), "log")
		return out + fmt.Sprint(e, o.All(), o.Len(), well, told(f))
	}
	was := rows()
	for range 20 {
		if got := rows(); got != was {
			t.Fatalf("%s\nwas\n%s", got, was)
		}
	}
	// A log that was appended to and one that was opened go on alike.
	f := file.New()
	a := created(t, f, "log")
	answers(t, "Append", a.Append([]byte("a"), nil), api.OK)
	g := f.Clone()
	b := opened(t, g, "log")
	for i, list := range append(someAppends(), [][]byte{sized(api.MaxBody)}) {
		if i == 4 {
			f.Fuse(3)
			g.Fuse(3)
		}
		if one, two := a.Append(list...), b.Append(list...); one != two {
			t.Errorf("list %d: %v, and %v", i, one, two)
		}
		tells(t, fmt.Sprintf("list %d", i), a, b.All())
		isAs(t, fmt.Sprintf("list %d", i), f, g)
	}
}
