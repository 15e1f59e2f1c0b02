package image_test

import (
	"bytes"
	"math/rand"
	"reflect"
	"testing"

	"wapentake/api"
	"wapentake/image"
	"wapentake/machine"
)

// roomy is bytes with more of them in their spare room.
func roomy(b []byte) []byte {
	return append(append(make([]byte, 0, len(b)+4), b...), 13, 13, 13, 13)[:len(b)]
}

// spoil writes over bytes, their spare room too.
func spoil(b []byte) {
	for i := range b[:cap(b)] {
		b[:cap(b)][i] = '?'
	}
}

// R4: the bytes that Load is given stay as they were, spare room too, and are not kept.
func TestLoadLeavesItsBytes(t *testing.T) {
	rows := [][]byte{nil, {0}, {1, 1, 0, 1, 0, 1, 0, 0, 0}, least().bytes(), rich().bytes(), append(rich().bytes(), 0), rich().bytes()[:100]}
	rows = append(rows, changed(func(p *parts) { p.commits[0].Base = 1 }).bytes(), changed(func(p *parts) { p.epochs[0].From, p.applied = 5, 4 }).bytes())
	for _, want := range rows {
		b := roomy(want)
		m, e := image.Load(b)
		if !bytes.Equal(b, want) || !bytes.Equal(b[len(b):cap(b)], []byte{13, 13, 13, 13}) {
			t.Fatalf("Load wrote into its bytes: %v, were %v", b[:cap(b)], want)
		}
		if e != api.OK {
			continue
		}
		was := of(m)
		spoil(b)
		if !reflect.DeepEqual(of(m), was) || !bytes.Equal(image.Save(m), want) {
			t.Fatalf("who wrote over the bytes changed the machine: %s, was %s", brief(of(m)), brief(was))
		}
		m.Apply(opens("one-more"))
		m.Apply(lands(m.Applied(), 1, m.Head(), "main", put("a", 9)))
		if !bytes.Equal(b[:cap(b)], bytes.Repeat([]byte{'?'}, cap(b))) {
			t.Fatalf("a machine that goes on wrote into its bytes: %v", b[:cap(b)])
		}
	}
}

// R4: the bytes that Save tells are new memory, spare room too: who writes over them changes no machine, and no other bytes.
func TestSaveIsNew(t *testing.T) {
	for _, m := range []*machine.Machine{news(t, 1, 1, 0), least().makes(t), rich().makes(t)} {
		was := of(m)
		first := image.Save(m)
		want := bytes.Clone(first)
		second := image.Save(m)
		spoil(first)
		if !bytes.Equal(second, want) {
			t.Fatalf("who wrote over bytes changed others: %v, were %v", second, want)
		}
		spoil(second)
		if !reflect.DeepEqual(of(m), was) || !bytes.Equal(image.Save(m), want) {
			t.Fatalf("who wrote over bytes changed the machine: %s, was %s", brief(of(m)), brief(was))
		}
	}
}

// R4: bytes that were saved stay as they are while the machine goes on.
func TestSavedStays(t *testing.T) {
	d := rand.New(rand.NewSource(7))
	m, seqs := grown(t, d, 20)
	var rows, copies [][]byte
	for range 50 {
		b := image.Save(m)
		rows, copies = append(rows, b), append(copies, bytes.Clone(b))
		m.Apply(anyRequest(d, m, seqs))
	}
	for i, b := range rows {
		if !bytes.Equal(b, copies[i]) {
			t.Fatalf("bytes that were saved are others now: %v, were %v", b, copies[i])
		}
	}
}

// R4: two machines of one row of bytes go their own ways.
func TestLoadedTwice(t *testing.T) {
	b := rich().bytes()
	one, other := takes(t, "once", b...), takes(t, "twice", b...)
	was := of(other)
	one.Apply(opens("one-more"))
	one.Apply(lands(1001, 1, one.Head(), "main", put("a", 9), gone("b")))
	one.Apply(members(api.Add, 1001, 2, 3))
	if one.Head() != other.Head()+1 || !reflect.DeepEqual(of(other), was) {
		t.Fatalf("one went on, and the other with it: %s, was %s", brief(of(other)), brief(was))
	}
}

// P10.1: to save is no use of a session: the one used longest ago leaves as if nobody had saved.
func TestSaveIsNoUse(t *testing.T) {
	m := news(t, 1, 2, 0)
	m.Apply(opens("a"))
	m.Apply(opens("b"))
	for range 3 {
		saves(t, m)
	}
	m.Apply(opens("c"))
	if l := m.Sessions(); len(l) != 2 || l[0].Name != "b" || l[1].Name != "c" {
		t.Errorf("Sessions: %v", l)
	}
}

// R5: what is told hangs on what is handed in alone.
func TestAgain(t *testing.T) {
	for _, b := range [][]byte{nil, least().bytes(), rich().bytes(), append(least().bytes(), 0), {1, 4, 0, 1, 0, 3, 0, 1, 2, 0}} {
		first, e := image.Load(b)
		for range 3 {
			m, again := image.Load(bytes.Clone(b))
			if again != e || !bytes.Equal(image.Save(m), image.Save(first)) {
				t.Errorf("Load of %s: %v, then %v", brief(b), e, again)
			}
		}
	}
}
