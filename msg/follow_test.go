package msg_test

import (
	"bytes"
	"math/rand"
	"slices"
	"testing"

	"wapentake/api"
	"wapentake/msg"
)

// pick is one of l.
func pick[T any](d *rand.Rand, l ...T) T { return l[d.Intn(len(l))] }

// anyNumber is a number that mostly may be.
func anyNumber(d *rand.Rand) int {
	if d.Intn(100) == 0 {
		return pick(d, badNumbers()...)
	}
	return pick(d, d.Intn(4), d.Intn(300), d.Intn(api.MaxNumber+1), pick(d, goodNumbers()...))
}

// anyAddress is an address that mostly is one.
func anyAddress(d *rand.Rand) int {
	if d.Intn(50) == 0 {
		return pick(d, -1, 15, 99, 200)
	}
	return pick(d, d.Intn(15), 100+d.Intn(100))
}

// anyText is a text of any bytes, mostly a short one.
func anyText(d *rand.Rand) string {
	b := make([]byte, pick(d, d.Intn(4), d.Intn(4), d.Intn(256)))
	d.Read(b)
	return string(b)
}

// anyChanges is Changes that may be.
func anyChanges(d *rand.Rand) []api.Change {
	l := make([]api.Change, pick(d, 0, 1, 2, 5))
	for i := range l {
		l[i].Path = anyText(d)
		if l[i].Gone = d.Intn(3) == 0; !l[i].Gone {
			l[i].Digest = d.Uint64() >> d.Intn(65)
		}
	}
	return l
}

// anyValue is a request that mostly may be.
func anyValue(d *rand.Rand) api.Request {
	if d.Intn(100) == 0 {
		return pick(d, badValues()...)
	}
	switch d.Intn(4) {
	case 0:
		return open(anyText(d))
	case 1:
		return api.Request{Kind: api.Land, Session: d.Intn(300), Seq: d.Intn(300), Base: d.Intn(300), Ref: anyText(d), Changes: anyChanges(d)}
	}
	return pick(d, goodValues()...)
}

// anyVotes is Votes that mostly may be.
func anyVotes(d *rand.Rand) []api.Vote {
	var l []api.Vote
	slot := d.Intn(100)
	for range pick(d, 0, 1, 2, 3, 20) {
		l = append(l, api.Vote{Slot: slot, Ballot: anyNumber(d), Value: anyValue(d)})
		slot += pick(d, 1, 1, 1, 2, 100)
		if d.Intn(100) == 0 {
			slot -= pick(d, 1, 2, 50)
		}
	}
	return l
}

// anyVerdict is a verdict that mostly may be.
func anyVerdict(d *rand.Rand) api.Verdict {
	switch {
	case d.Intn(50) == 0:
		return pick(d, badVerdicts()...)
	case d.Intn(3) > 0:
		return pick(d, goodVerdicts()...)
	}
	v := api.Verdict{Code: api.LogIs}
	for range d.Intn(4) {
		v.Commits = append(v.Commits, api.Commit{Rev: d.Intn(300), Base: d.Intn(300), Ref: anyText(d), Changes: anyChanges(d)})
	}
	return v
}

// anyField is a value for a field.
func anyField(d *rand.Rand, name string) any {
	switch name {
	case "Value":
		return anyValue(d)
	case "Votes":
		return anyVotes(d)
	case "Image":
		return []byte(anyText(d))
	case "Verdict":
		return anyVerdict(d)
	}
	return anyNumber(d)
}

// anyMessage is a message that mostly may be.
func anyMessage(d *rand.Rand) api.Message {
	m := api.Message{Kind: pick(d, kinds()...), From: anyAddress(d), To: anyAddress(d)}
	for _, name := range named(m.Kind) {
		m = with(m, name, anyField(d, name))
	}
	if d.Intn(20) == 0 {
		name := pick(d, all()...)
		m = with(m, name, anyField(d, name))
	}
	return m
}

// P11.2: Decode of Encode is the message, and one bit turned of its bytes is ErrSum; with other bytes in its body Encode of what Decode tells are the bytes. (encodes and decodes hold it.)
func TestAnyMessages(t *testing.T) {
	count := map[bool]int{}
	errors := map[api.Errno]int{}
	for seed := range 6000 {
		d := rand.New(rand.NewSource(int64(seed)))
		m := anyMessage(d)
		b := encodes(t, m)
		count[len(b) > 0]++
		if len(b) == 0 {
			continue
		}
		for range 4 {
			i := d.Intn(8 * len(b))
			b[i/8] ^= 1 << (i % 8)
			fails(t, "a bit turned", api.ErrSum, b...)
			b[i/8] ^= 1 << (i % 8)
		}
		for range 4 {
			errors[decodes(t, plainFrame(unlike(d, b[8:len(b)-4])))]++
		}
	}
	if count[true] < 3000 || count[false] < 500 {
		t.Errorf("%d may be, %d may not be", count[true], count[false])
	}
	for _, e := range []api.Errno{api.OK, api.ErrShort, api.ErrLong, api.ErrForm} {
		if errors[e] < 100 {
			t.Errorf("%v only %d times", e, errors[e])
		}
	}
}

// unlike is a body in new memory with a few of its bytes changed.
func unlike(d *rand.Rand, body []byte) []byte {
	b := bytes.Clone(body)
	for range 1 + d.Intn(2) {
		i := d.Intn(len(b))
		switch d.Intn(5) {
		case 0:
			b[i] = byte(d.Intn(256))
		case 1:
			b[i] ^= 1 << d.Intn(8)
		case 2:
			b = slices.Insert(b, i, byte(d.Intn(256)))
		case 3:
			if len(b) > 1 {
				b = slices.Delete(b, i, i+1)
			}
		case 4:
			b[i] += pick[byte](d, 1, 255)
		}
	}
	return b
}

// P11.2: messages that are unlike have unlike bytes, and none of them is the beginning of another one's.
func TestUnlike(t *testing.T) {
	l := some()
	for _, kind := range kinds() {
		for _, name := range named(kind) {
			d := rand.New(rand.NewSource(int64(kind)))
			for range 20 {
				l = append(l, with(full(kind), name, anyField(d, name)))
			}
		}
		l = append(l, with(full(kind), "From", 4), with(full(kind), "To", 4), with(bare(kind), "From", 1), with(bare(kind), "To", 1))
	}
	var rows [][]byte
	var good []api.Message
	for _, m := range l {
		if b := encodes(t, m); len(b) > 0 {
			rows, good = append(rows, b), append(good, m)
		}
	}
	if len(good) < 500 {
		t.Fatalf("only %d of %d may be", len(good), len(l))
	}
	for i, b := range rows {
		for j, c := range rows {
			if equal := same(good[i], good[j]); equal != bytes.Equal(b, c) || equal != bytes.HasPrefix(c, b) {
				t.Fatalf("%s and %s: %v, %v", brief(good[i]), brief(good[j]), brief(b), brief(c))
			}
		}
	}
}

// R5: what is told hangs on what is handed in alone.
func TestAgain(t *testing.T) {
	for seed := range 300 {
		m := anyMessage(rand.New(rand.NewSource(int64(seed))))
		b, e := msg.Encode(m)
		back, err := msg.Decode(b)
		for range 3 {
			if c, f := msg.Encode(deep(m)); f != e || !slices.Equal(c, b) || msg.Check(deep(m)) != msg.Check(m) {
				t.Fatalf("Encode of %s: %v, %v; then %v, %v", brief(m), brief(b), e, brief(c), f)
			}
			if again, f := msg.Decode(bytes.Clone(b)); f != err || !same(again, back) {
				t.Fatalf("Decode of %v: %s, %v; then %s, %v", brief(b), brief(back), err, brief(again), f)
			}
		}
	}
}

// FuzzDecode holds what any bytes, and a right frame of them, are decoded as against the chapter's words.
func FuzzDecode(f *testing.F) {
	for _, m := range some() {
		f.Add(plainRow(m).bytes())
		f.Add(plainFrame(plainRow(m).bytes()))
	}
	f.Fuzz(func(t *testing.T, b []byte) {
		decodes(t, b)
		if len(b) <= api.MaxBody {
			decodes(t, plainFrame(b))
		}
	})
}
