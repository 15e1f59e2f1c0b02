package image_test

import (
	"bytes"
	"fmt"
	"math"
	"reflect"
	"slices"
	"testing"

	"wapentake/api"
	"wapentake/codec"
	"wapentake/entry"
	"wapentake/image"
	"wapentake/machine"
)

// brief is x as a text that can be read, however much x has.
func brief(x any) string { return fmt.Sprintf("%.700s", fmt.Sprintf("%+v", x)) }

// parts is what a machine is made of.
type parts struct {
	alpha, size, applied int
	epochs               []api.Epoch
	sessions             []api.Session
	commits              []api.Commit
}

// plainCommits is the commits in new memory, with each empty list as nil, since they are one.
func plainCommits(l []api.Commit) []api.Commit {
	var out []api.Commit
	for _, c := range l {
		c.Changes = append([]api.Change(nil), c.Changes...)
		out = append(out, c)
	}
	return out
}

// plain is the parts in new memory, with each empty list as nil.
func (p parts) plain() parts {
	out := parts{alpha: p.alpha, size: p.size, applied: p.applied, commits: plainCommits(p.commits)}
	for _, e := range p.epochs {
		out.epochs = append(out.epochs, api.Epoch{From: e.From, Members: append([]int(nil), e.Members...)})
	}
	for _, s := range p.sessions {
		s.Last.Commits = plainCommits(s.Last.Commits)
		out.sessions = append(out.sessions, s)
	}
	return out
}

// of is what m tells.
func of(m *machine.Machine) parts {
	return parts{m.Alpha(), m.Size(), m.Applied(), m.Epochs(), m.Sessions(), m.Commits()}.plain()
}

// made is machine.Make of the parts.
func (p parts) made() (*machine.Machine, api.Errno) {
	return machine.Make(p.alpha, p.size, p.applied, p.epochs, p.sessions, p.commits)
}

// makes is the machine of the parts, which must be one.
func (p parts) makes(t *testing.T) *machine.Machine {
	t.Helper()
	m, e := p.made()
	if e != api.OK {
		t.Fatalf("Make of %s: %v", brief(p), e)
	}
	return m
}

// piece is a part of an image that is read at once: a number, or bytes that no number stands in.
type piece struct {
	what string
	num  bool
	n    int
	b    []byte
}

// row is the pieces of an image, from the left.
type row []piece

// plainNumber is a number's bytes by chapter 1's words: digits of 7 bits, the lowest first.
func plainNumber(n int) []byte {
	var b []byte
	for ; n > 127; n /= 128 {
		b = append(b, byte(n%128+128))
	}
	return append(b, byte(n))
}

func (r *row) number(what string, n int) {
	*r = append(*r, piece{what, true, n, plainNumber(n)})
}

func (r *row) raw(what string, b ...byte) { *r = append(*r, piece{what: what, b: b}) }

func (r *row) text(what, s string) {
	r.number(what+"'s length", len(s))
	r.raw(what, []byte(s)...)
}

func (r *row) word(what string, x uint64) {
	var b []byte
	for i := 7; i >= 0; i-- {
		b = append(b, byte(x>>(8*i)))
	}
	r.raw(what, b...)
}

func (r *row) changes(l []api.Change) {
	r.number("how many Changes", len(l))
	for _, c := range l {
		r.text("Path", c.Path)
		if c.Gone {
			r.raw("flag", 1)
		} else {
			r.raw("flag", 0)
			r.word("Digest", c.Digest)
		}
	}
}

// verdict is a verdict's pieces by chapter 9's words.
func (r *row) verdict(v api.Verdict) {
	r.number("Code", v.Code)
	switch v.Code {
	case api.Opened:
		r.number("Session", v.Session)
	case api.Landed, api.Ahead, api.HeadIs:
		r.number("Rev", v.Rev)
	case api.Conflict:
		r.text("Path", v.Path)
		r.number("Rev", v.Rev)
	case api.Found:
		r.text("Path", v.Path)
		r.word("Digest", v.Digest)
		r.number("Rev", v.Rev)
	case api.Missing:
		r.text("Path", v.Path)
	case api.LogIs:
		r.number("how many Commits of a verdict", len(v.Commits))
		for _, c := range v.Commits {
			r.number("Rev", c.Rev)
			r.number("Base", c.Base)
			r.text("Ref", c.Ref)
			r.changes(c.Changes)
		}
	case api.Added, api.Dropped, api.Refused:
		r.number("Member", v.Member)
	}
}

// row is the pieces by the chapter's words.
func (p parts) row() row {
	var r row
	r.number("Alpha", p.alpha)
	r.number("Size", p.size)
	r.number("Applied", p.applied)
	r.number("how many Epochs", len(p.epochs))
	for _, e := range p.epochs {
		r.number("From", e.From)
		r.number("how many Members", len(e.Members))
		for _, id := range e.Members {
			r.number("Member", id)
		}
	}
	r.number("how many Sessions", len(p.sessions))
	for _, s := range p.sessions {
		r.number("Id", s.Id)
		r.number("Seq", s.Seq)
		r.text("Name", s.Name)
		r.verdict(s.Last)
	}
	r.number("how many Commits", len(p.commits))
	for _, c := range p.commits {
		r.number("Base", c.Base)
		r.text("Ref", c.Ref)
		r.changes(c.Changes)
	}
	return r
}

// bytes is the pieces one behind the other.
func (r row) bytes() []byte {
	var b []byte
	for _, p := range r {
		b = append(b, p.b...)
	}
	return b
}

// with is the bytes with others in the place of one piece.
func (r row) with(i int, b ...byte) []byte {
	return slices.Concat(r[:i].bytes(), b, r[i+1:].bytes())
}

// place is where the first piece of that name stands, behind so many others of that name.
func (r row) place(t *testing.T, what string, behind int) int {
	t.Helper()
	for i, p := range r {
		if p.what != what {
			continue
		}
		if behind == 0 {
			return i
		}
		behind--
	}
	t.Fatalf("there is no %s", what)
	return -1
}

// writable tells whether all of the parts may be written.
func (p parts) writable() bool {
	for _, x := range p.sessions {
		if _, e := entry.EncodeVerdict(x.Last); e != api.OK || len(x.Name) > api.MaxBody || x.Id < 0 || x.Id > api.MaxNumber || x.Seq < 0 || x.Seq > api.MaxNumber {
			return false
		}
	}
	return true // a machine has no other parts that may not be written
}

// saves holds Save of m against the chapter's words, and tells it.
func saves(t *testing.T, m *machine.Machine) []byte {
	t.Helper()
	was := of(m)
	var want []byte
	if was.writable() {
		want = was.row().bytes()
	}
	got := image.Save(m)
	if !bytes.Equal(got, want) {
		t.Fatalf("Save of %s: %v, want %v", brief(was), got, want)
	}
	if !reflect.DeepEqual(of(m), was) {
		t.Fatalf("Save changed a machine: %s, was %s", brief(of(m)), brief(was))
	}
	return got
}

// glass reads bytes by the chapters' words. What it fails by first stays.
type glass struct {
	rest []byte
	e    api.Errno
}

func (g *glass) fail(e api.Errno) {
	if g.e == api.OK {
		g.e = e
	}
}

func (g *glass) take(n int) []byte {
	if g.e == api.OK && n > len(g.rest) {
		g.fail(api.ErrShort)
	}
	if g.e != api.OK {
		return nil
	}
	b := g.rest[:n]
	g.rest = g.rest[n:]
	return b
}

func (g *glass) num() int {
	n := 0
	for i := range 6 {
		b := g.take(1)
		if g.e != api.OK {
			return 0
		}
		n += int(b[0]%128) << (7 * i)
		if b[0] < 128 {
			if i > 0 && b[0] == 0 || n > api.MaxNumber {
				g.fail(api.ErrForm)
				return 0
			}
			return n
		}
	}
	g.fail(api.ErrForm)
	return 0
}

func (g *glass) many(most int) int {
	n := g.num()
	if n > most {
		g.fail(api.ErrForm)
		return 0
	}
	return n
}

func (g *glass) text(most int) string {
	n := g.num()
	if n > most {
		g.fail(api.ErrLong)
	}
	return string(g.take(n))
}

func (g *glass) flag() bool {
	b := g.take(1)
	if len(b) == 1 && b[0] > 1 {
		g.fail(api.ErrForm)
	}
	return len(b) == 1 && b[0] == 1
}

func (g *glass) word() uint64 {
	var x uint64
	for _, c := range g.take(8) {
		x = x*256 + uint64(c)
	}
	return x
}

func (g *glass) verdict() api.Verdict {
	if g.e != api.OK {
		return api.Verdict{}
	}
	r := codec.NewReader(g.rest)
	v := entry.Heard(r)
	g.e, g.rest = r.Fail(), g.rest[len(g.rest)-r.Left():]
	return v
}

func (g *glass) epoch() api.Epoch {
	e := api.Epoch{From: g.num()}
	for i, n := 0, g.many(api.MaxReplicas); i < n && g.e == api.OK; i++ {
		e.Members = append(e.Members, g.num())
	}
	return e
}

func (g *glass) commit() api.Commit {
	c := api.Commit{Base: g.num()}
	c.Ref = g.text(255)
	for i, n := 0, g.many(64); i < n && g.e == api.OK; i++ {
		x := api.Change{Path: g.text(255)}
		if x.Gone = g.flag(); !x.Gone {
			x.Digest = g.word()
		}
		c.Changes = append(c.Changes, x)
	}
	return c
}

// plainParts is what bytes say by the chapter's words, or what is wrong with them.
func plainParts(b []byte) (parts, api.Errno) {
	g := &glass{rest: b}
	var p parts
	p.alpha, p.size, p.applied = g.num(), g.num(), g.num()
	for i, n := 0, g.many(api.MaxReplicas+1); i < n && g.e == api.OK; i++ {
		p.epochs = append(p.epochs, g.epoch())
	}
	for i, n := 0, g.many(api.MaxSessions); i < n && g.e == api.OK; i++ {
		s := api.Session{Id: g.num(), Seq: g.num()}
		s.Name = g.text(api.MaxPart)
		s.Last = g.verdict()
		p.sessions = append(p.sessions, s)
	}
	for i, n := 0, g.many(math.MaxInt); i < n && g.e == api.OK; i++ {
		c := g.commit()
		c.Rev = i + 1
		p.commits = append(p.commits, c)
	}
	if g.e == api.OK && len(g.rest) > 0 {
		g.fail(api.ErrLong)
	}
	return p, g.e
}

// plainLoad is the machine of bytes by the chapter's words.
func plainLoad(b []byte) (*machine.Machine, api.Errno) {
	p, e := plainParts(b)
	if e != api.OK {
		return nil, e
	}
	m, e := p.made()
	if e != api.OK {
		return nil, e
	}
	if !bytes.Equal(of(m).row().bytes(), b) {
		return nil, api.ErrForm
	}
	return m, api.OK
}

// loads holds Load of b against the chapter's words, and tells it.
func loads(t *testing.T, b []byte) (*machine.Machine, api.Errno) {
	t.Helper()
	want, wrong := plainLoad(b)
	m, e := image.Load(b)
	if e != wrong || (m == nil) != (e != api.OK) {
		t.Fatalf("Load of %v: %s, %v, want %v", b, brief(of(m)), e, wrong)
	}
	if e != api.OK {
		return nil, e
	}
	alike(t, "Load", m, want)
	if again := saves(t, m); !bytes.Equal(again, b) {
		t.Fatalf("Load took %v, Save says %v", b, again)
	}
	return m, e
}

// fails holds that Load refuses b by that error.
func fails(t *testing.T, what string, want api.Errno, b ...byte) {
	t.Helper()
	if _, e := loads(t, b); e != want {
		t.Errorf("Load, %s: %v, want %v; of %s", what, e, want, brief(b))
	}
}

// takes holds that Load takes b.
func takes(t *testing.T, what string, b ...byte) *machine.Machine {
	t.Helper()
	m, e := loads(t, b)
	if e != api.OK {
		t.Fatalf("Load, %s: %v; of %s", what, e, brief(b))
	}
	return m
}

// alike holds that two machines tell the same.
func alike(t *testing.T, what string, got, want *machine.Machine) {
	t.Helper()
	if !reflect.DeepEqual(of(got), of(want)) {
		t.Fatalf("%s: %s, want %s", what, brief(of(got)), brief(of(want)))
	}
	if got.Head() != want.Head() || !slices.Equal(got.Union(), want.Union()) {
		t.Fatalf("%s: head %d, union %v; want %d, %v", what, got.Head(), got.Union(), want.Head(), want.Union())
	}
	for _, slot := range []int{-1, 0, 5, want.Applied(), want.Applied() + 1, want.Applied() + api.MaxAlpha, math.MaxInt} {
		if !slices.Equal(got.At(slot), want.At(slot)) {
			t.Fatalf("%s: the members of the slot %d: %v, want %v", what, slot, got.At(slot), want.At(slot))
		}
	}
}
