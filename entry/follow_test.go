package entry_test

import (
	"bytes"
	"math/rand"
	"slices"
	"testing"

	"wapentake/api"
	"wapentake/entry"
)

// anyNumber is a number that mostly may be.
func anyNumber(d *rand.Rand) int {
	switch d.Intn(12) {
	case 0:
		return api.MaxNumber - d.Intn(3)
	case 1:
		return d.Intn(api.MaxNumber)
	case 2:
		if d.Intn(6) == 0 {
			return api.MaxNumber + d.Intn(3)
		}
	case 3:
		if d.Intn(6) == 0 {
			return d.Intn(3) - 2
		}
	}
	return d.Intn(300)
}

// anyText is a text that mostly may be.
func anyText(d *rand.Rand) string {
	n := d.Intn(4)
	switch d.Intn(20) {
	case 0:
		n = 253 + d.Intn(4)
	case 1:
		n = 126 + d.Intn(4)
	}
	b := make([]byte, n)
	for i := range b {
		b[i] = byte(d.Intn(256))
	}
	return string(b)
}

// anyChanges is Changes that mostly may be.
func anyChanges(d *rand.Rand) []api.Change {
	n := d.Intn(4)
	if d.Intn(20) == 0 {
		n = 62 + d.Intn(4)
	}
	l := make([]api.Change, n)
	for i := range l {
		l[i].Path = anyText(d)
		if l[i].Gone = d.Intn(2) == 0; !l[i].Gone || d.Intn(50) == 0 {
			l[i].Digest = d.Uint64() >> d.Intn(65)
		}
	}
	return l
}

// anyCommits is Commits that mostly may be.
func anyCommits(d *rand.Rand) []api.Commit {
	n := d.Intn(4)
	if d.Intn(20) == 0 {
		n = api.MaxLog - 1 + d.Intn(3)
	}
	l := make([]api.Commit, n)
	for i := range l {
		l[i] = api.Commit{Rev: d.Intn(300), Base: d.Intn(300), Ref: "r", Changes: anyChanges(d)}
		if d.Intn(8) == 0 {
			l[i].Rev, l[i].Base, l[i].Ref = anyNumber(d), anyNumber(d), anyText(d)
		}
	}
	return l
}

// random is one whose named fields are any, and seldom another one too.
func (s side[T]) random(d *rand.Rand) T {
	kind := d.Intn(len(s.fields))
	x := s.of(kind)
	names := s.named(kind)
	if d.Intn(10) == 0 {
		names = append(names, s.all()[d.Intn(len(s.all()))])
	}
	for _, name := range names {
		switch field(&x, name).Interface().(type) {
		case int:
			x = with(x, name, anyNumber(d))
		case string:
			x = with(x, name, anyText(d))
		case uint64:
			x = with(x, name, d.Uint64()>>d.Intn(65))
		case []api.Change:
			x = with(x, name, anyChanges(d))
		case []api.Commit:
			x = with(x, name, anyCommits(d))
		}
	}
	return x
}

// follows holds what random ones are encoded as, and what their bytes are decoded as with a few of them changed, against the chapter's words.
func follows[T any](t *testing.T, s side[T]) {
	for seed := range 4000 {
		d := rand.New(rand.NewSource(int64(seed)))
		x := s.random(d)
		s.encodes(t, x)
		if b, e := s.encode(x); e == api.OK {
			s.decodes(t, b)
			for range 1 + d.Intn(4) {
				i := d.Intn(len(b))
				switch d.Intn(4) {
				case 0:
					b[i] = byte(d.Intn(256))
				case 1:
					b[i] ^= 1 << d.Intn(8)
				case 2:
					b = slices.Insert(b, i, byte(d.Intn(256)))
				case 3:
					if len(b) > 1 {
						b = slices.Delete(b, i, i+1)
					}
				}
				s.decodes(t, b)
			}
		}
		if t.Failed() {
			t.Fatalf("at the seed %d", seed)
		}
	}
}

// P9.1, P9.3: random ones, and their bytes with a few changed.
func TestRandom(t *testing.T) {
	both(t, follows[api.Request], follows[api.Verdict])
}

// unlike holds that those that are unlike have unlike bytes, of which none is the beginning of another one's.
func unlike[T any](t *testing.T, s side[T]) {
	var l []T
	for kind := range s.fields {
		l = append(l, s.of(kind), s.full(kind))
		for _, name := range s.named(kind) {
			x := s.full(kind)
			for i, value := range others(t, &x, name) {
				if i < 40 {
					l = append(l, with(x, name, value))
				}
			}
			for i, value := range some(t, &x, name) {
				if i < 12 {
					l = append(l, with(s.of(kind), name, value))
				}
			}
		}
	}
	d := rand.New(rand.NewSource(5))
	for range 200 {
		l = append(l, s.random(d))
	}
	var rows [][]byte
	var good []T
	for _, x := range l {
		if b, e := s.encode(x); e == api.OK {
			rows, good = append(rows, b), append(good, x)
		}
	}
	if len(rows) < 100 {
		t.Fatalf("only %d of %d may be", len(rows), len(l))
	}
	for i, b := range rows {
		for j, c := range rows {
			if equal := s.same(good[i], good[j]); equal != bytes.HasPrefix(c, b) || equal != bytes.Equal(b, c) {
				t.Fatalf("%s and %s: %v, %v", brief(good[i]), brief(good[j]), brief(b), brief(c))
			}
		}
	}
}

// P9.3: unlike ones have unlike bytes.
func TestUnlike(t *testing.T) {
	both(t, unlike[api.Request], unlike[api.Verdict])
}

// R5: what is told hangs on what is handed in alone.
func TestAgain(t *testing.T) {
	for seed := range 50 {
		d := rand.New(rand.NewSource(int64(seed)))
		r, v := requests().random(d), verdicts().random(d)
		b, e := entry.Encode(r)
		c, f := entry.EncodeVerdict(v)
		for range 3 {
			again, err := entry.Encode(deep(r))
			if !slices.Equal(again, b) || err != e || entry.Check(deep(r)) != e {
				t.Errorf("Encode(%s): %v, %v; then %v, %v", brief(r), brief(b), e, brief(again), err)
			}
			if again, err = entry.EncodeVerdict(deep(v)); !slices.Equal(again, c) || err != f {
				t.Errorf("EncodeVerdict(%s): %v, %v; then %v, %v", brief(v), brief(c), f, brief(again), err)
			}
		}
	}
}

// FuzzDecode holds what any bytes are decoded as against the chapter's words.
func FuzzDecode(f *testing.F) {
	for kind := range api.Kinds {
		f.Add(requests().plainBytes(requests().full(kind)))
	}
	for code := range api.Codes {
		f.Add(verdicts().plainBytes(verdicts().full(code)))
	}
	f.Fuzz(func(t *testing.T, b []byte) {
		requests().decodes(t, b)
		verdicts().decodes(t, b)
	})
}
