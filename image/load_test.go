package image_test

import (
	"bytes"
	"strings"
	"testing"

	"wapentake/api"
	"wapentake/image"
	"wapentake/machine"
)

// least is parts of which Load takes the bytes, with one session and one commit.
func least() parts {
	return parts{
		alpha: 1, size: 2, applied: 3,
		epochs:   []api.Epoch{{From: 2, Members: []int{0, 1}}},
		sessions: []api.Session{{Id: 4, Seq: 1, Name: "a", Last: api.Verdict{Code: api.Landed, Rev: 1}}},
		commits:  []api.Commit{{Rev: 1, Ref: "m", Changes: []api.Change{put("a", 5), gone("b")}}},
	}
}

// changed is least with a change.
func changed(change func(p *parts)) parts {
	p := least()
	change(&p)
	return p
}

// bytes is the parts' bytes by the chapter's words, whether Load takes them or not.
func (p parts) bytes() []byte { return p.row().bytes() }

// P10.1: Load of the examples, and of the least there may be.
func TestLoadExamples(t *testing.T) {
	b := []byte{1, 4, 0, 1, 0, 3, 0, 1, 2, 0, 0}
	alike(t, "the example", takes(t, "the example", b...), news(t, 1, 4, 0, 1, 2))
	fails(t, "the example with a byte behind", api.ErrLong, append(b, 0)...)
	fails(t, "nothing", api.ErrShort)
	fails(t, "an empty list", api.ErrShort, []byte{}...)
	alike(t, "the least", takes(t, "the least", 1, 1, 0, 1, 0, 1, 0, 0, 0), news(t, 1, 1, 0))
	fails(t, "what Save tells of a machine that no call made", api.ErrArg, image.Save(&machine.Machine{})...)
	takes(t, "each part once", least().bytes()...)
}

// P10.1: every beginning of good bytes is too short, and bytes behind them are too many.
func TestLoadCuts(t *testing.T) {
	for _, p := range []parts{least(), rich()} {
		b := p.bytes()
		takes(t, "all", b...)
		for i := range b {
			fails(t, "a beginning", api.ErrShort, b[:i]...)
		}
		for _, more := range [][]byte{{0}, {1}, {128}, {255}, b} {
			fails(t, "bytes behind", api.ErrLong, join(b, more)...)
		}
	}
}

// P10.1: a number that is not written the shortest way, that is too great, or has too many digits, in each place; and one that is cut.
func TestLoadNumbers(t *testing.T) {
	places := 0
	for _, p := range []parts{least(), rich()} {
		r := p.row()
		for i, x := range r[:min(len(r), 400)] {
			if !x.num {
				continue
			}
			places++
			digits := bytes.Clone(x.b)
			digits[len(digits)-1] |= 128
			fails(t, x.what+" with a 0 behind", api.ErrForm, r.with(i, join(digits, []byte{0})...)...)
			fails(t, x.what+" with two 0 behind", api.ErrForm, r.with(i, join(digits, []byte{128, 0})...)...)
			fails(t, x.what+" above MaxNumber", api.ErrForm, r.with(i, plainNumber(api.MaxNumber+1)...)...)
			fails(t, x.what+" of seven digits", api.ErrForm, r.with(i, 129, 128, 128, 128, 128, 128, 1)...)
			fails(t, x.what+" that goes on", api.ErrShort, join(r[:i].bytes(), []byte{129})...)
			fails(t, x.what+" that ends", api.ErrShort, r[:i].bytes()...)
		}
	}
	if places < 200 {
		t.Errorf("only %d places", places)
	}
}

// P10.1: a flag that is none, in each place.
func TestLoadFlags(t *testing.T) {
	places := 0
	for _, p := range []parts{least(), rich()} {
		r := p.row()
		for i, x := range r {
			if x.what != "flag" {
				continue
			}
			places++
			for _, c := range []byte{2, 3, 127, 128, 129, 255} {
				fails(t, "a flag that is none", api.ErrForm, r.with(i, c)...)
			}
		}
	}
	if places < 10 {
		t.Errorf("only %d places", places)
	}
}

// P10.1: how many Epochs and Members there may be.
func TestLoadManyEpochs(t *testing.T) {
	p := least()
	p.epochs = nil
	for i := range api.MaxReplicas + 1 {
		p.epochs = append(p.epochs, api.Epoch{From: 3 + i, Members: []int{i % api.MaxReplicas}})
	}
	if m := takes(t, "MaxReplicas + 1 Epochs", p.bytes()...); len(m.Epochs()) != 16 {
		t.Errorf("%d Epochs of 16", len(m.Epochs()))
	}
	p.epochs = append(p.epochs, api.Epoch{From: 100, Members: []int{0}})
	fails(t, "one more Epoch", api.ErrForm, p.bytes()...)
	p = least()
	p.epochs[0].Members = nil
	for i := range api.MaxReplicas {
		p.epochs[0].Members = append(p.epochs[0].Members, i)
	}
	if m := takes(t, "MaxReplicas Members", p.bytes()...); len(m.At(0)) != 15 {
		t.Errorf("%d Members of 15", len(m.At(0)))
	}
	p.epochs[0].Members = append(p.epochs[0].Members, api.MaxReplicas)
	fails(t, "one more Member", api.ErrForm, p.bytes()...)
}

// P10.1: how many Sessions there may be, and how long a Name.
func TestLoadManySessions(t *testing.T) {
	p := least()
	p.size, p.sessions = api.MaxSessions, nil
	for i := range api.MaxSessions {
		p.sessions = append(p.sessions, api.Session{Id: i, Name: strings.Repeat("a", api.MaxPart-i)})
	}
	if m := takes(t, "MaxSessions Sessions", p.bytes()...); len(m.Sessions()) != 16 || len(m.Sessions()[0].Name) != 24 {
		t.Errorf("Sessions: %v", m.Sessions())
	}
	p.sessions = append(p.sessions, api.Session{Id: 99, Name: "b"})
	fails(t, "one more Session", api.ErrForm, p.bytes()...)
	p = least()
	p.sessions[0].Name = strings.Repeat("a", api.MaxPart+1)
	fails(t, "a Name of one more byte", api.ErrLong, p.bytes()...)
	p.sessions[0].Name = "\x00 any bytes: /../\xff"
	takes(t, "a Name of any bytes", p.bytes()...)
	p.sessions[0].Name = ""
	takes(t, "an empty Name", p.bytes()...)
}

// P10.1: how long a Ref and a Path may be, and how many Changes there may be. What is at its limit is read; the machine takes less.
func TestLoadLongCommits(t *testing.T) {
	ref := func(n int) []byte {
		return changed(func(p *parts) { p.commits[0].Ref = strings.Repeat("a", n) }).bytes()
	}
	takes(t, "a Ref of MaxPart bytes", ref(24)...)
	fails(t, "a Ref of one more, which is no name", api.ErrForm, ref(25)...)
	fails(t, "a Ref of 255", api.ErrForm, ref(255)...)
	fails(t, "a Ref of 256", api.ErrLong, ref(256)...)
	text := func(n int) []byte {
		return changed(func(p *parts) { p.commits[0].Changes[0].Path = strings.Repeat("a", n) }).bytes()
	}
	takes(t, "a Path of MaxPart bytes", text(24)...)
	fails(t, "a Path of 25", api.ErrForm, text(25)...)
	fails(t, "a Path of 255", api.ErrForm, text(255)...)
	fails(t, "a Path of 256", api.ErrLong, text(256)...)
	many := func(n int) []byte {
		return changed(func(p *parts) {
			p.commits[0].Changes = nil
			for i := range n {
				p.commits[0].Changes = append(p.commits[0].Changes, put(string([]byte{byte('a' + i/10), byte('0' + i%10)}), 1))
			}
		}).bytes()
	}
	takes(t, "MaxChanges Changes", many(api.MaxChanges)...)
	fails(t, "one more", api.ErrForm, many(api.MaxChanges+1)...)
	fails(t, "64 Changes", api.ErrForm, many(64)...)
	fails(t, "64 Changes, cut", api.ErrShort, many(64)[:len(many(64))-1]...)
	fails(t, "64 Changes and a byte", api.ErrLong, append(many(64), 0)...)
	fails(t, "65 Changes", api.ErrForm, many(65)...)
	fails(t, "65 Changes, cut", api.ErrForm, many(65)[:len(many(65))-1]...)
	fails(t, "65 Changes and a byte", api.ErrForm, append(many(65), 0)...)
}

// P10.1: a count alone ends Load where it is above its limit, and is too short below it, however great it is.
func TestLoadCounts(t *testing.T) {
	r := rich().row()
	for _, c := range []struct {
		what string
		most int
	}{{"how many Epochs", 16}, {"how many Members", 15}, {"how many Sessions", 16}, {"how many Changes", 64}, {"how many Commits of a verdict", api.MaxLog}, {"how many Commits", api.MaxNumber}} {
		ahead := r[:r.place(t, c.what, 0)].bytes()
		fails(t, c.what+": none behind", api.ErrShort, join(ahead, []byte{1})...)
		fails(t, c.what+": the most", api.ErrShort, join(ahead, plainNumber(c.most))...)
		fails(t, c.what+": one more", api.ErrForm, join(ahead, plainNumber(c.most+1))...)
		if c.most < api.MaxNumber {
			fails(t, c.what+": the greatest number", api.ErrForm, join(ahead, plainNumber(api.MaxNumber))...)
		}
	}
	p := least()
	b := p.row()
	fails(t, "as many Commits as a number can say, and one", api.ErrShort, b.with(b.place(t, "how many Commits", 0), plainNumber(api.MaxNumber)...)...)
}

// P10.1: a verdict's bytes that are wrong.
func TestLoadLasts(t *testing.T) {
	r := changed(func(p *parts) { p.sessions[0].Last = api.Verdict{} }).row()
	i := r.place(t, "Code", 0)
	takes(t, "a verdict that says nothing", r.bytes()...)
	long := join(plainNumber(256), make([]byte, 256))
	for _, c := range []struct {
		want api.Errno
		b    []byte
	}{
		{api.ErrForm, []byte{15}},
		{api.ErrForm, []byte{127}},
		{api.ErrForm, []byte{128, 0}},
		{api.ErrForm, plainNumber(api.MaxNumber)},
		{api.ErrForm, join([]byte{2}, plainNumber(api.MaxNumber+1))},
		{api.ErrLong, join([]byte{3}, long, []byte{0})},
		{api.ErrLong, join([]byte{9}, long)},
		{api.ErrLong, join([]byte{10}, long)},
		{api.ErrForm, []byte{11, 33}},
		{api.ErrForm, []byte{11, 1, 0, 0, 0, 65}},
		{api.ErrForm, []byte{11, 1, 0, 0, 0, 1, 0, 2}},
		{api.ErrLong, join([]byte{11, 1, 0, 0}, long, []byte{0})},
		{api.ErrLong, join([]byte{11, 1, 0, 0, 0, 1}, long, []byte{1})},
	} {
		fails(t, "a Last", c.want, r.with(i, c.b...)...)
	}
	for code := range lasts() {
		fails(t, "a Code alone", api.ErrShort, join(r[:i].bytes(), []byte{byte(code)})...)
	}
	full := api.Verdict{Code: api.LogIs, Commits: make([]api.Commit, api.MaxLog)}
	for i := range full.Commits {
		full.Commits[i] = api.Commit{Rev: api.MaxNumber, Base: i, Ref: strings.Repeat("R", 255), Changes: make([]api.Change, 64)}
	}
	full.Commits[3].Changes[5].Path = strings.Repeat("/", 255)
	takes(t, "the longest Last", changed(func(p *parts) { p.sessions[0].Last = full }).bytes()...)
}

// wrongs is what may be put in the place of a piece so that it is wrong, by the error.
func wrongs(x piece) map[api.Errno][]byte {
	switch {
	case strings.HasSuffix(x.what, "'s length"):
		return map[api.Errno][]byte{api.ErrForm: {128, 0}, api.ErrLong: plainNumber(256)}
	case x.num:
		return map[api.Errno][]byte{api.ErrForm: {128, 0}}
	case x.what == "flag":
		return map[api.Errno][]byte{api.ErrForm: {2}}
	}
	return nil
}

// P10.1: of several errors it is the first from the left, ahead of ErrLong for bytes that are left, and that ahead of what Make refuses.
func TestLoadFirstFromTheLeft(t *testing.T) {
	p := least()
	p.alpha = 0
	p.sessions[0].Last = api.Verdict{Code: api.LogIs, Commits: []api.Commit{{Ref: "m", Changes: []api.Change{gone("a")}}}}
	r := p.row()
	pairs := 0
	for i, first := range r {
		for want, b := range wrongs(first) {
			one := r.with(i, b...)
			fails(t, first.what+" and bytes behind", want, append(one, 0)...)
			for j := i + 1; j < len(r); j++ {
				for _, c := range wrongs(r[j]) {
					pairs++
					fails(t, first.what+" and "+r[j].what, want, join(r[:i].bytes(), b, r[i+1:j].bytes(), c, r[j+1:].bytes())...)
				}
			}
		}
	}
	if pairs < 300 {
		t.Errorf("only %d pairs", pairs)
	}
	fails(t, "what Make refuses", api.ErrArg, r.bytes()...)
	fails(t, "what Make refuses, and a byte", api.ErrLong, append(r.bytes(), 0)...)
	fails(t, "what Make refuses, cut", api.ErrShort, r.bytes()[:len(r.bytes())-1]...)
	p = changed(func(p *parts) { p.epochs = append(p.epochs, api.Epoch{From: 3, Members: []int{0}}) })
	fails(t, "what is cut", api.ErrForm, p.bytes()...)
	fails(t, "what is cut, and a byte", api.ErrLong, append(p.bytes(), 0)...)
	p.size = 0
	fails(t, "what is cut, and what Make refuses", api.ErrArg, p.bytes()...)
}

// P10.1: each thing that Make refuses, alone.
func TestLoadMakeRefuses(t *testing.T) {
	for _, c := range []struct {
		what   string
		want   api.Errno
		change func(p *parts)
	}{
		{"alpha 0", api.ErrArg, func(p *parts) { p.alpha = 0 }},
		{"alpha MaxAlpha + 1", api.ErrArg, func(p *parts) { p.alpha = api.MaxAlpha + 1 }},
		{"alpha MaxNumber", api.ErrArg, func(p *parts) { p.alpha = api.MaxNumber }},
		{"no Epochs", api.ErrForm, func(p *parts) { p.epochs = nil }},
		{"no Members", api.ErrForm, func(p *parts) { p.epochs[0].Members = nil }},
		{"no Members in a later one", api.ErrForm, func(p *parts) { p.epochs = append(p.epochs, api.Epoch{From: 9}) }},
		{"a Member MaxReplicas", api.ErrForm, func(p *parts) { p.epochs[0].Members[1] = api.MaxReplicas }},
		{"a Member MaxNumber", api.ErrForm, func(p *parts) { p.epochs[0].Members[1] = api.MaxNumber }},
		{"Members that are the same", api.ErrForm, func(p *parts) { p.epochs[0].Members[1] = 0 }},
		{"Members that fall", api.ErrForm, func(p *parts) { p.epochs[0].Members = []int{3, 1} }},
		{"Froms that are the same", api.ErrForm, func(p *parts) { p.epochs = append(p.epochs, p.epochs[0]) }},
		{"Froms that fall", api.ErrForm, func(p *parts) { p.epochs = append(p.epochs, api.Epoch{From: 1, Members: []int{0}}) }},
		{"size 0", api.ErrArg, func(p *parts) { p.size = 0 }},
		{"size MaxSessions + 1", api.ErrArg, func(p *parts) { p.size = api.MaxSessions + 1 }},
		{"size MaxNumber", api.ErrArg, func(p *parts) { p.size = api.MaxNumber }},
		{"more Sessions than size", api.ErrForm, func(p *parts) {
			p.size, p.sessions = 1, append(p.sessions, api.Session{Id: 9, Name: "b"})
		}},
		{"two of one Id", api.ErrForm, func(p *parts) { p.sessions = append(p.sessions, api.Session{Id: 4, Name: "b"}) }},
		{"two of one Name", api.ErrForm, func(p *parts) { p.sessions = append(p.sessions, api.Session{Id: 9, Name: "a"}) }},
		{"no Changes", api.ErrForm, func(p *parts) { p.commits[0].Changes = nil }},
		{"a Base at its own place", api.ErrForm, func(p *parts) { p.commits[0].Base = 1 }},
		{"a Base MaxNumber", api.ErrForm, func(p *parts) { p.commits[0].Base = api.MaxNumber }},
		{"a Ref that is no name", api.ErrForm, func(p *parts) { p.commits[0].Ref = "M" }},
		{"a Path that is none", api.ErrForm, func(p *parts) { p.commits[0].Changes[0].Path = "" }},
		{"a Path of another form", api.ErrForm, func(p *parts) { p.commits[0].Changes[0].Path = "a//a" }},
		{"two Changes of one Path", api.ErrForm, func(p *parts) { p.commits[0].Changes[1].Path = "a" }},
		{"Changes that fall", api.ErrForm, func(p *parts) { p.commits[0].Changes[0].Path = "c" }},
		{"a conflict", api.ErrForm, func(p *parts) {
			p.commits = append(p.commits, api.Commit{Rev: 2, Changes: []api.Change{put("a", 1)}})
		}},
		{"a conflict with what is gone", api.ErrForm, func(p *parts) {
			p.commits = append(p.commits, api.Commit{Rev: 2, Changes: []api.Change{put("b", 1)}})
		}},
		{"epochs' ahead of size's", api.ErrForm, func(p *parts) { p.epochs, p.size = nil, 0 }},
		{"alpha's ahead of all", api.ErrArg, func(p *parts) { p.epochs, p.alpha, p.sessions = nil, 0, append(p.sessions, p.sessions[0]) }},
		{"size's ahead of commits'", api.ErrArg, func(p *parts) { p.commits[0].Base, p.size = 1, 0 }},
	} {
		fails(t, c.what, c.want, changed(c.change).bytes()...)
	}
}

// P10.1: epochs that Make cuts off are refused; those that stay are taken.
func TestLoadCutEpochs(t *testing.T) {
	two := func(applied, first, second int) []byte {
		return changed(func(p *parts) {
			p.applied = applied
			p.epochs = []api.Epoch{{From: first, Members: []int{0}}, {From: second, Members: []int{1}}}
		}).bytes()
	}
	fails(t, "the second one counts at applied", api.ErrForm, two(9, 0, 9)...)
	fails(t, "the second one counts ahead of it", api.ErrForm, two(9, 0, 5)...)
	fails(t, "all count for long", api.ErrForm, two(api.MaxNumber, 0, 1)...)
	takes(t, "the second one counts behind it", two(9, 0, 10)...)
	takes(t, "both count behind it", two(9, 10, 11)...)
	takes(t, "the first one counts at applied", two(9, 9, 10)...)
	takes(t, "the last slot", two(api.MaxNumber-1, api.MaxNumber-1, api.MaxNumber)...)
	takes(t, "no slot is left", changed(func(p *parts) { p.applied = api.MaxNumber }).bytes()...)
}

// P10.1: what is not said to be refused is taken: numbers at their ends, sessions that no Open makes.
func TestLoadAny(t *testing.T) {
	m := takes(t, "numbers at their ends", changed(func(p *parts) {
		p.alpha, p.size, p.applied = api.MaxAlpha, api.MaxSessions, api.MaxNumber-1
		p.epochs[0].From = api.MaxNumber
		p.sessions = []api.Session{{}, {Id: api.MaxNumber, Seq: api.MaxNumber, Name: "No Name", Last: api.Verdict{Code: api.Expired}}}
		p.commits = nil
	}).bytes()...)
	if v := m.Apply(asks(api.Head, api.MaxNumber, api.MaxNumber)); v.Code != api.Expired {
		t.Errorf("what it did last: %v", v)
	}
	takes(t, "MaxNumber was applied", saves(t, m)...)
	if v := m.Apply(opens("a")); v.Code != api.Bad {
		t.Errorf("behind the last slot: %v", v)
	}
}

// P10.1, P10.2: each other byte in each place of short bytes, and pairs of them.
func TestLoadOtherBytes(t *testing.T) {
	few := []byte{0, 1, 2, 3, 4, 15, 16, 17, 24, 25, 64, 65, 127, 128, 129, 255}
	for _, b := range [][]byte{{1, 1, 0, 1, 0, 1, 0, 0, 0}, {1, 4, 0, 1, 0, 3, 0, 1, 2, 0, 0}, least().bytes()} {
		for i := range b {
			other := bytes.Clone(b)
			for c := range 256 {
				other[i] = byte(c)
				loads(t, other)
			}
			for j := range i {
				for _, c := range few {
					for _, d := range few {
						other[i], other[j] = c, d
						loads(t, other)
					}
				}
				other[j] = b[j]
			}
		}
	}
}

// P10.1: all rows of up to two bytes, and those of up to five that a few bytes make.
func TestLoadShortRows(t *testing.T) {
	rows := [][]byte{nil}
	for i := 0; len(rows[i]) < 2; i++ {
		for c := range 256 {
			rows = append(rows, join(rows[i], []byte{byte(c)}))
		}
	}
	few := [][]byte{nil}
	for i := 0; len(few[i]) < 5; i++ {
		for _, c := range []byte{0, 1, 2, 17, 128, 255} {
			few = append(few, join(few[i], []byte{c}))
		}
	}
	for _, b := range append(rows, few...) {
		loads(t, b)
	}
}
