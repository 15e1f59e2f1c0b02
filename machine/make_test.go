package machine_test

import (
	"fmt"
	"math"
	"strings"
	"testing"

	"wapentake/api"
	"wapentake/machine"
)

// makes makes a machine of what is told, or holds what Make refuses it with against an error.
func makes(t *testing.T, alpha, sessions, applied int, l []api.Epoch, s []api.Session, c []api.Commit, want api.Errno) *machine.Machine {
	t.Helper()
	m, e := machine.Make(alpha, sessions, applied, l, s, c)
	if e != want || (m != nil) != (want == api.OK) {
		t.Fatalf("Make %d %d %d %s %s %s: %v, %v, want %v", alpha, sessions, applied, brief(l), brief(s), brief(c), m, e, want)
	}
	return m
}

// remakes is Make of what m tells.
func remakes(t *testing.T, m *machine.Machine) *machine.Machine {
	t.Helper()
	return makes(t, m.Alpha(), m.Size(), m.Applied(), m.Epochs(), m.Sessions(), m.Commits(), api.OK)
}

// epochs and the next ones are what Make takes.
func epochs() []api.Epoch { return []api.Epoch{from(3, 0, 1), from(7, 0, 1, 5), from(9, 5)} }

func sessions() []api.Session {
	return []api.Session{{Id: 6, Seq: 2, Name: "bert", Last: logIs(commit(1, 0, "", put("a", 1)))}, {Id: 2, Name: "anna"}, {Id: 4, Seq: 9, Name: "carl", Last: landed(2)}}
}

func commits() []api.Commit {
	return []api.Commit{commit(1, 0, "", put("a", 1)), commit(2, 0, "main", gone("b"), put("b/c", 4))}
}

// P8.1: Make is the machine of what it is given, its epochs cut at applied.
func TestMake(t *testing.T) {
	for applied, places := range map[int]int{0: 0, 1: 0, 3: 0, 6: 0, 7: 1, 8: 1, 9: 2, 10: 2, 1 << 30: 2, api.MaxNumber: 2} {
		m := makes(t, 4, 3, applied, epochs(), sessions(), commits(), api.OK)
		union := [][]int{{0, 1, 5}, {0, 1, 5}, {5}}[places]
		stays(t, fmt.Sprint("Make, applied ", applied), m, state{applied, 4, 3, 2, union, plainEpochs(epochs()[places:]), plainSessions(sessions()), plainCommits(commits())})
		at(t, m, -1, epochs()[places].Members...)
		at(t, m, 8, [][]int{{0, 1, 5}, {0, 1, 5}, {5}}[places]...)
		at(t, m, math.MaxInt, 5)
	}
}

// P8.1: what Make made goes on from applied, with the sessions, the commits and alpha that it was given.
func TestMakeGoesOn(t *testing.T) {
	m := makes(t, 4, 3, 9, epochs(), sessions(), commits(), api.OK)
	applies(t, m, log(6, 2, 1, 1), logIs(commit(1, 0, "", put("a", 1))))
	applies(t, m, head(4, 8), stale())
	applies(t, m, add(4, 10, 6), added(6)) // at the slot 11
	epochsAre(t, m, from(9, 5), from(15, 5, 6))
	applies(t, m, land(4, 11, 1, "", put("c", 1), put("b", 2)), conflict("b", 2))
	applies(t, m, land(4, 12, 2, "", put("b", 2)), landed(3))
	applies(t, m, open("dora"), opened(15)) // anna's was used longest ago
	orders(t, m, "bert carl dora")
	applies(t, m, open("anna"), opened(16))
	orders(t, m, "carl dora anna")
}

// P8.1: Make of the least there may be.
func TestMakeLeast(t *testing.T) {
	for _, s := range [][]api.Session{nil, {}} {
		for _, c := range [][]api.Commit{nil, {}} {
			m := makes(t, 1, 1, 0, []api.Epoch{from(0, 3)}, s, c, api.OK)
			stays(t, "Make of the least", m, tell(news(t, ids(3), 1, 1, api.OK)))
			applies(t, m, open("a"), opened(1))
		}
	}
}

// P8.1: epochs, sessions, commits and applied that may not be are refused, each alone.
func TestMakeRefuses(t *testing.T) {
	for _, alpha := range wrongAlphas() {
		makes(t, alpha, 3, 9, epochs(), sessions(), commits(), api.ErrArg)
	}
	for _, l := range [][]api.Epoch{nil, {}, {from(0)}, {from(-1, 0)}, {from(0, 0), from(0, 1)}, {from(5, 0), from(4, 1)}, {from(api.MaxNumber+1, 0)}, {from(0, 1, 0)}, {from(0, 0), from(1, 15)}} {
		makes(t, 4, 3, 9, l, sessions(), commits(), api.ErrForm)
	}
	for _, size := range wrongSizes() {
		makes(t, 4, size, 9, epochs(), sessions(), commits(), api.ErrArg)
	}
	makes(t, 4, 2, 9, epochs(), sessions(), commits(), api.ErrForm) // more than there may be
	for _, s := range [][]api.Session{{{Seq: -1}}, {{Id: 1, Name: "a"}, {Id: 1, Name: "b"}}, {{Id: 1, Name: "a"}, {Id: 2, Name: "a"}}} {
		makes(t, 4, 3, 9, epochs(), s, commits(), api.ErrForm)
	}
	for _, c := range [][]api.Commit{{{}}, {{Rev: 2, Changes: []api.Change{put("a", 1)}}}, {commit(1, 1, "", put("a", 1))}, {commit(1, 0, "A", put("a", 1))}, {commit(1, 0, "", put("b", 1), put("a", 1))}, append(commits(), commit(3, 0, "", put("a", 1)))} {
		makes(t, 4, 3, 9, epochs(), sessions(), c, api.ErrForm)
	}
	for _, applied := range []int{-1, api.MaxNumber + 1, math.MinInt, math.MaxInt} {
		makes(t, 4, 3, applied, epochs(), sessions(), commits(), api.ErrForm)
	}
	for _, applied := range []int{0, 1, api.MaxNumber - 1, api.MaxNumber} {
		makes(t, 4, 3, applied, epochs(), sessions(), commits(), api.OK)
	}
}

// P8.1: where several are wrong, the error is the epochs', then the sessions', then that of the commits and of applied.
func TestMakeFirstError(t *testing.T) {
	for wrongEpochs, first := range []api.Errno{api.OK, api.ErrArg, api.ErrForm, api.ErrArg} {
		for wrongSessions, second := range []api.Errno{api.OK, api.ErrArg, api.ErrForm, api.ErrArg} {
			for wrongRest, third := range []api.Errno{api.OK, api.ErrForm, api.ErrForm, api.ErrForm} {
				alpha, size, applied := 1, 3, 9
				l, s, c := epochs(), sessions(), commits()
				if wrongEpochs&1 > 0 {
					alpha = 0
				}
				if wrongEpochs&2 > 0 {
					l = nil
				}
				if wrongSessions&1 > 0 {
					size = 0
				}
				if wrongSessions&2 > 0 {
					s[1].Seq = -1
				}
				if wrongRest&1 > 0 {
					c[1].Rev = 7
				}
				if wrongRest&2 > 0 {
					applied = -1
				}
				want := first
				if want == api.OK {
					want = second
				}
				if want == api.OK {
					want = third
				}
				makes(t, alpha, size, applied, l, s, c, want)
			}
		}
	}
}

// P8.1, R6: what is not said to be refused is taken: epochs far off, sessions with any Ids and Names, applied ahead of them.
func TestMakeAny(t *testing.T) {
	s := []api.Session{{}, {Id: -5, Name: "No/Name"}, {Id: math.MaxInt, Seq: math.MaxInt, Name: strings.Repeat("x", 1000), Last: api.Verdict{Code: -1, Session: 9}}}
	l := []api.Epoch{from(5, 0), from(6, 0), from(api.MaxNumber, 0)}
	m := makes(t, 1, 3, 0, l, s, nil, api.OK)
	applies(t, m, head(0, 1), headIs(0))
	applies(t, m, head(-5, 1), headIs(0))
	applies(t, m, head(math.MaxInt, math.MaxInt), api.Verdict{Code: -1, Session: 9})
	applies(t, m, add(0, 2, 3), refused(3))
	epochsAre(t, m, l...)
	applies(t, m, open("a"), opened(5))
	applies(t, m, noop(), nothing())
	epochsAre(t, m, l[1:]...)
}
