package conf

import (
	"bytes"
	"encoding/hex"
	"slices"
	"strconv"
	"strings"
	"testing"

	"regatta/api"
)

func want(t *testing.T, what string, got, e api.Errno) {
	t.Helper()
	if got != e {
		t.Errorf("%s: error %d; want %d", what, got, e)
	}
}

func wantIs(t *testing.T, what string, got, is bool) {
	t.Helper()
	if got != is {
		t.Errorf("%s: %t; want %t", what, got, is)
	}
}

func wantNumbers(t *testing.T, what string, got []uint64, s string) {
	t.Helper()
	if toldList(got) != s {
		t.Errorf("%s: %s; want %s", what, toldList(got), s)
	}
}

// wantConf: a call that answers a configuration and an error answered this one, and OK.
func wantConf(t *testing.T, what string, got api.Conf, e api.Errno, s string) {
	t.Helper()
	if told(got) != told(of(s)) || e != api.OK {
		t.Errorf("%s: %s, error %d; want %s", what, told(got), e, told(of(s)))
	}
}

// wantNone: it answered this error, and nothing beside it.
func wantNone(t *testing.T, what string, got api.Conf, e, err api.Errno) {
	t.Helper()
	if e != err || len(got.Voters)+len(got.Old)+len(got.Learners) > 0 {
		t.Errorf("%s: %s, error %d; want nothing, error %d", what, told(got), e, err)
	}
}

func wantBytes(t *testing.T, what string, got []byte, h string) {
	t.Helper()
	if !bytes.Equal(got, raw(t, h)) {
		t.Errorf("%s: %x; want %s", what, got, h)
	}
}

// raw is the bytes of a hexadecimal text with gaps.
func raw(t *testing.T, h string) []byte {
	t.Helper()
	b, err := hex.DecodeString(strings.ReplaceAll(h, " ", ""))
	if err != nil {
		t.Fatal(err)
	}
	return b
}

// list is the numbers of a text.
func list(s string) []uint64 {
	var l []uint64
	for _, w := range strings.Fields(s) {
		n, err := strconv.ParseUint(w, 10, 64)
		if err != nil {
			panic(err)
		}
		l = append(l, n)
	}
	return l
}

// of is the configuration of a text: Voters | Old | Learners.
func of(s string) api.Conf {
	p := append(strings.Split(s, "|"), "", "")
	return api.Conf{Voters: list(p[0]), Old: list(p[1]), Learners: list(p[2])}
}

// changes are those of a text: +4 a voter, ~4 a learner, -4 to be removed, ?4 of no kind.
func changes(s string) []api.Change {
	var l []api.Change
	for _, w := range strings.Fields(s) {
		l = append(l, api.Change{Kind: 1 + strings.Index("+~-", w[:1]), Peer: list(w[1:])[0]})
	}
	return l
}

func toldList(l []uint64) string {
	var words []string
	for _, n := range l {
		words = append(words, strconv.FormatUint(n, 10))
	}
	return strings.Join(words, " ")
}

func told(c api.Conf) string {
	return "(" + toldList(c.Voters) + " | " + toldList(c.Old) + " | " + toldList(c.Learners) + ")"
}

// counted are the numbers from from on up to to.
func counted(from, to uint64) []uint64 {
	var l []uint64
	for n := from; n <= to; n++ {
		l = append(l, n)
	}
	return l
}

// all are the configurations that Check takes with members among 1 .. peers: each of them is nothing, a voter, one of before, both, or a learner.
func all(peers uint64) []api.Conf {
	confs := []api.Conf{{}}
	for p := uint64(1); p <= peers; p++ {
		var more []api.Conf
		for _, c := range confs {
			voters, old, learners := with(c.Voters, p), with(c.Old, p), with(c.Learners, p)
			more = append(more, c,
				api.Conf{Voters: voters, Old: c.Old, Learners: c.Learners},
				api.Conf{Voters: c.Voters, Old: old, Learners: c.Learners},
				api.Conf{Voters: voters, Old: old, Learners: c.Learners},
				api.Conf{Voters: c.Voters, Old: c.Old, Learners: learners})
		}
		confs = more
	}
	return slices.DeleteFunc(confs, func(c api.Conf) bool { return len(c.Voters) == 0 })
}

// with is a list of its own, with a number behind.
func with(l []uint64, n uint64) []uint64 { return append(slices.Clone(l), n) }

// sets are all sets of the numbers.
func sets(l []uint64) [][]uint64 {
	out := [][]uint64{nil}
	for _, n := range l {
		for _, s := range out {
			out = append(out, with(s, n))
		}
	}
	return out
}

func common(a, b []uint64) bool {
	return slices.ContainsFunc(a, func(n uint64) bool { return slices.Contains(b, n) })
}
