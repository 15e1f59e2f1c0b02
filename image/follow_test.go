package image_test

import (
	"bytes"
	"fmt"
	"math"
	"math/rand"
	"reflect"
	"slices"
	"testing"

	"wapentake/api"
	"wapentake/entry"
	"wapentake/image"
	"wapentake/machine"
)

// pick is one of l.
func pick[T any](d *rand.Rand, l ...T) T { return l[d.Intn(len(l))] }

// anyRequest is a request that may be (entry.Check), mostly of a session that may be there.
func anyRequest(d *rand.Rand, m *machine.Machine, seqs map[int]int) api.Request {
	session := d.Intn(m.Applied() + 2)
	if l := m.Sessions(); len(l) > 0 && d.Intn(8) > 0 {
		session = l[d.Intn(len(l))].Id
	}
	seqs[session] += pick(d, 0, 1, 1, 1, 1, 1, 2, 100)
	seq := max(0, seqs[session]-pick(d, 0, 0, 0, 0, 0, 0, 0, 1))
	switch kind := d.Intn(api.Kinds + 6); kind {
	case api.Noop:
		return api.Request{}
	case api.Open:
		return opens(pick(d, "a", "b", "c", "d", "e", "a-long_name-of-24-bytes-", "No Name", ""))
	case api.Read:
		r := asks(kind, session, seq)
		r.Path = pick(d, "a", "b", "c", "c/d", "z", "a/../b", "")
		return r
	case api.Log:
		r := asks(kind, session, seq)
		r.From, r.Many = d.Intn(m.Head()+3), pick(d, 0, 1, 3, 32, 33, api.MaxNumber)
		return r
	case api.Head:
		return asks(kind, session, seq)
	case api.Add, api.Drop:
		return members(kind, session, seq, pick(d, d.Intn(api.MaxReplicas), d.Intn(4), 15, api.MaxNumber))
	}
	var l []api.Change
	for range pick(d, 1, 1, 2, 3, 5, 0) {
		l = append(l, pick(d, put(pick(d, "a", "b", "c", "c/d", "e"), d.Uint64()>>d.Intn(65)), gone(pick(d, "a", "b", "f"))))
	}
	base := m.Head()
	if d.Intn(4) == 0 {
		base = d.Intn(m.Head() + 2)
	}
	return lands(session, seq, base, pick(d, "", "", "main", "other", "a-long_name-of-24-bytes-", "No"), l...)
}

// grown is a machine to which so many requests were applied, with what its sessions asked last.
func grown(t *testing.T, d *rand.Rand, many int) (*machine.Machine, map[int]int) {
	t.Helper()
	m := news(t, 1+d.Intn(api.MaxAlpha), 1+d.Intn(5), pick(d, []int{0}, []int{0, 1, 2}, []int{2, 7, 14})...)
	seqs := map[int]int{}
	for range many {
		m.Apply(mayBe(t, anyRequest(d, m, seqs)))
	}
	return m, seqs
}

// mayBe is r, which must be one that may be.
func mayBe(t *testing.T, r api.Request) api.Request {
	t.Helper()
	if e := entry.Check(r); e != api.OK {
		t.Fatalf("the test asks what may not be: %s", brief(r))
	}
	return r
}

// P10.2: Load of Save is the machine: it tells the same, then and as both go on.
func TestLoadOfSave(t *testing.T) {
	codes := map[int]int{}
	for seed := range 300 {
		d := rand.New(rand.NewSource(int64(seed)))
		m, seqs := grown(t, d, seed)
		b := saves(t, m)
		x := takes(t, "what was saved", b...)
		alike(t, "Load of Save", x, m)
		for range 40 {
			for _, s := range m.Sessions() {
				codes[s.Last.Code]++
			}
			r := mayBe(t, anyRequest(d, m, seqs))
			if got, want := x.Peek(r), m.Peek(r); !entry.Alike(got, want) {
				t.Fatalf("seed %d: Peek of %s: %s, want %s", seed, brief(r), brief(got), brief(want))
			}
			if got, want := x.Apply(r), m.Apply(r); !entry.Alike(got, want) {
				t.Fatalf("seed %d: Apply of %s: %s, want %s", seed, brief(r), brief(got), brief(want))
			}
			if !bytes.Equal(image.Save(x), image.Save(m)) {
				t.Fatalf("seed %d: unlike bytes behind %s", seed, brief(r))
			}
		}
		alike(t, "both, further on", x, m)
		takes(t, "further on", saves(t, x)...)
	}
	for _, code := range []int{api.Landed, api.Conflict, api.Ahead, api.Bad, api.HeadIs, api.Found, api.Missing, api.LogIs, api.Added, api.Dropped, api.Refused} {
		if codes[code] < 20 {
			t.Errorf("the Code %d was a Last only %d times", code, codes[code])
		}
	}
}

// P10.2: at each slot of a row; and a machine that was loaded at each slot is the one that was never saved.
func TestLoadAtEachSlot(t *testing.T) {
	for seed := range 20 {
		d := rand.New(rand.NewSource(int64(1000 + seed)))
		m, seqs := grown(t, d, 0)
		x := m
		for range 150 {
			r := mayBe(t, anyRequest(d, m, seqs))
			got, want := x.Apply(r), m.Apply(r)
			if x == m {
				got = want
				x = takes(t, "the first slot", saves(t, m)...)
			}
			if !entry.Alike(got, want) {
				t.Fatalf("seed %d: Apply of %s: %s, want %s", seed, brief(r), brief(got), brief(want))
			}
			x = takes(t, "a slot", saves(t, x)...)
			alike(t, "a slot", x, m)
		}
	}
}

// P10.2: Save of what Load took are the bytes: good bytes with a few of them changed. (loads holds it.)
func TestSaveOfLoad(t *testing.T) {
	taken, refused := 0, 0
	for seed := range 400 {
		d := rand.New(rand.NewSource(int64(seed)))
		m, _ := grown(t, d, d.Intn(60))
		good := saves(t, m)
		if seed%8 == 0 {
			good = rich().bytes()
		}
		for range 30 {
			b := bytes.Clone(good)
			for range 1 + d.Intn(2) {
				i := d.Intn(len(b))
				switch d.Intn(5) {
				case 0:
					b[i] = byte(d.Intn(256))
				case 1:
					b[i] ^= 1 << d.Intn(8)
				case 2:
					b = slices.Insert(b, i, byte(d.Intn(256)))
				case 3:
					b = slices.Delete(b, i, i+1)
				case 4:
					b[i] += pick[byte](d, 1, 255)
				}
				if len(b) == 0 {
					b = bytes.Clone(good)
				}
			}
			if _, e := loads(t, b); e == api.OK {
				taken++
			} else {
				refused++
			}
		}
	}
	if taken < 500 || refused < 500 {
		t.Errorf("%d taken, %d refused", taken, refused)
	}
}

// P10.2: two machines that tell the same have the same bytes, whichever way they came to it; those that do not have others.
func TestSameBytes(t *testing.T) {
	type known struct {
		told parts
		from string
	}
	byBytes := map[string]known{}
	note := func(what string, m *machine.Machine) {
		t.Helper()
		b := string(saves(t, m))
		if k, ok := byBytes[b]; ok && !reflect.DeepEqual(k.told, of(m)) {
			t.Fatalf("%s and %s have one row of bytes: %s, %s", what, k.from, brief(of(m)), brief(k.told))
		}
		byBytes[b] = known{of(m), what}
	}
	for seed := range 100 {
		d := rand.New(rand.NewSource(int64(seed)))
		m, _ := grown(t, d, seed)
		b := saves(t, m)
		remade, loaded, clone := of(m).makes(t), takes(t, "saved", b...), m.Clone()
		for what, x := range map[string]*machine.Machine{"remade": remade, "loaded": loaded, "a clone": clone, "a clone of a loaded one": loaded.Clone()} {
			alike(t, what, x, m)
			if !bytes.Equal(saves(t, x), b) {
				t.Fatalf("seed %d: %s has other bytes", seed, what)
			}
			note(what, x)
		}
		clone.Apply(api.Request{})
		note("a clone that went on", clone)
		if bytes.Equal(saves(t, clone), b) || !bytes.Equal(saves(t, m), b) {
			t.Fatalf("seed %d: a clone went on, and the bytes did not go with it", seed)
		}
	}
	for i := range rich().row() { // machines that differ in one part
		r := rich().row()
		for _, c := range [][]byte{{0}, {1}, {2}, {7}} {
			if m, e := image.Load(r.with(i, c...)); e == api.OK {
				note(fmt.Sprint("rich, with another ", r[i].what), m)
			}
		}
	}
}

// P10.2: what was done in another order, but tells the same, has the same bytes.
func TestSameBytesByOtherWays(t *testing.T) {
	one, other := news(t, 1, 2, 0), news(t, 1, 2, 0)
	one.Apply(opens("a"))
	one.Apply(lands(1, 1, 0, "", put("b", 1), put("a", 2)))
	one.Apply(asks(api.Head, 1, 2))
	one.Apply(asks(api.Head, 1, 2))
	other.Apply(opens("a"))
	other.Apply(lands(1, 1, 0, "", put("a", 2), put("b", 1)))
	other.Apply(lands(1, 1, 0, "", put("c", 2)))
	other.Apply(asks(api.Head, 1, 2))
	alike(t, "one and another", one, other)
	if !bytes.Equal(saves(t, one), saves(t, other)) {
		t.Errorf("unlike bytes: %v, %v", image.Save(one), image.Save(other))
	}
}

// P10.1: requests that may be or not: Save says bytes just where each part may be written.
func TestSaveOfWildRequests(t *testing.T) {
	none := 0
	for seed := range 200 {
		d := rand.New(rand.NewSource(int64(seed)))
		m, seqs := grown(t, d, 5)
		for range 30 {
			r := anyRequest(d, m, seqs)
			if d.Intn(3) == 0 {
				r.Member = pick(d, -1, math.MinInt, api.MaxNumber+1)
				r.Seq = pick(d, r.Seq, r.Seq, -1, api.MaxNumber, api.MaxNumber+1)
			}
			m.Apply(r)
			b := saves(t, m)
			if len(b) == 0 {
				none++
				continue
			}
			alike(t, "Load of Save", takes(t, "what could be saved", b...), m)
		}
	}
	if none < 100 {
		t.Errorf("only %d had no bytes", none)
	}
}

// P10.2: many commits, more than a log or a request has.
func TestManyCommits(t *testing.T) {
	m := news(t, 8, 1, 0)
	m.Apply(opens("a"))
	for i := range 3000 {
		m.Apply(lands(1, i+1, i, "main", put("a", uint64(i)), put(fmt.Sprint("b/", i), 1)))
	}
	x := takes(t, "many commits", saves(t, m)...)
	alike(t, "many commits", x, m)
	if x.Head() != 3000 {
		t.Errorf("the head: %d", x.Head())
	}
}

// FuzzLoad holds what Load says of any bytes against the chapter's words.
func FuzzLoad(f *testing.F) {
	f.Add(least().bytes())
	f.Add(rich().bytes())
	f.Add([]byte{1, 4, 0, 1, 0, 3, 0, 1, 2, 0, 0})
	f.Fuzz(func(t *testing.T, b []byte) { loads(t, b) })
}
