package entry

import "wapentake/codec"

const mostText = 255 // bytes of a text

// pen writes fields, and refuses what is beyond its limit.
type pen struct{ w *codec.Writer }

// writing is the hand that writes.
func writing(w *codec.Writer) hand {
	p := pen{w}
	return hand{num: p.num, upTo: p.upTo, text: p.text, flag: p.flag, word: p.word}
}

func (p pen) num(n int) int {
	p.w.Num(n)
	return n
}

// upTo writes no number above most, and gives 0 back for it, so that no more is gone through than there may be.
func (p pen) upTo(n, most int) int {
	if n > most {
		p.w.Refuse()
		return 0
	}
	return p.num(n)
}

// text refuses a long text by itself: the writer's own limit is another one, with another error.
func (p pen) text(s string) string {
	if len(s) > mostText {
		p.w.Refuse()
	}
	p.w.Text(s)
	return s
}

func (p pen) flag(b bool) bool {
	p.w.Flag(b)
	return b
}

func (p pen) word(x uint64) uint64 {
	p.w.Word(x)
	return x
}

// eye reads fields; what it is handed does not count.
type eye struct{ r *codec.Reader }

// reading is the hand that reads.
func reading(r *codec.Reader) hand {
	e := eye{r}
	return hand{num: e.num, upTo: e.upTo, text: e.text, flag: e.flag, word: e.word}
}

func (e eye) num(int) int { return e.r.Num() }

// upTo gives 0 back for a number above most, as for any that the reader fails at.
func (e eye) upTo(_, most int) int {
	n := e.r.Num()
	if n > most {
		e.r.Refuse()
		return 0
	}
	return n
}

func (e eye) text(string) string { return e.r.Text(mostText) }

func (e eye) flag(bool) bool { return e.r.Flag() }

func (e eye) word(uint64) uint64 { return e.r.Word() }
