package conf

import (
	"math"
	"math/rand/v2"
	"slices"
	"testing"

	"regatta/api"
)

func TestQuorumAndLost(t *testing.T) { // P7.3
	rows := []struct {
		c, peers     string
		quorum, lost bool
	}{
		{"1", "", false, false}, {"1", "1", true, true}, {"1", "2", false, false},
		{"1 2", "1", false, true}, {"1 2", "1 2", true, true},
		{"1 2 3", "1", false, false}, {"1 2 3", "3 1", true, true}, {"1 2 3", "1 2 3", true, true},
		{"1 2 3 4", "1", false, false}, {"1 2 3 4", "1 2", false, true}, {"1 2 3 4", "1 2 4", true, true},
		{"1 2 3 4 5 6 7 8 9", "1 2 3 4", false, false}, {"1 2 3 4 5 6 7 8 9", "1 2 3 4 9", true, true},
		{"1 2 3", "1 1 1 1", false, false}, {"1 2 3", "3 3 9 1 0 1", true, true}, // in any order, twice, and others
		{"1 2 3", "4 5 6 7 8", false, false}, {"1 2 3", "0 0", false, false},
		{"1 | | 2 3", "2 3", false, false}, {"1 2 3 | | 4 5", "1 4 5", false, false}, // learners count nothing
		{"2 3 4 | 1 2 3", "2 3", true, true}, {"2 3 4 | 1 2 3", "3 4", false, true}, {"2 3 4 | 1 2 3", "1 2", false, true},
		{"2 3 4 | 1 2 3", "1 4", false, false}, {"2 3 4 | 1 2 3", "4", false, false}, {"2 3 4 | 1 2 3", "1 2 4", true, true}, {"2 3 4 | 1 2 3", "1 3 4", true, true},
		{"1 | 2 3 4", "1", false, true}, {"1 | 2 3 4", "2 3 4", false, true}, {"1 | 2 3 4", "1 2 4", true, true}, {"1 | 2 3 4", "2", false, false}, {"1 | 2 3 4", "2 4", false, true},
		{"1 2 | 3", "3", false, true}, {"1 2 | 3", "1 2", false, true}, {"1 2 | 3", "1 2 3", true, true},
		{"2 | 2", "2", true, true},
	}
	for _, r := range rows {
		wantIs(t, "Quorum("+r.c+"; "+r.peers+")", Quorum(of(r.c), list(r.peers)), r.quorum)
		wantIs(t, "Lost("+r.c+"; "+r.peers+")", Lost(of(r.c), list(r.peers)), r.lost)
	}
}

func TestNothingIsDecidedByWhatCheckRefuses(t *testing.T) { // P7.3, P7.4
	for _, s := range []string{"", "| 1", "| | 1", "2 1", "1 1", "0", "0 1 2", "1 2 3 | 0", "1 2 3 | | 1", "1 | 2 1", "1 2 3 4 5 6 7 8 9 10", "1 2 3 4 5 6 7 8 9 | 10"} {
		c, peers := of(s), counted(0, 10)
		want(t, "Check("+s+")", Check(c), api.ErrConf)
		wantIs(t, "Quorum("+s+")", Quorum(c, peers), false)
		wantIs(t, "Quorum("+s+") of nobody", Quorum(c, nil), false)
		wantIs(t, "Lost("+s+")", Lost(c, peers), false)
		wantIs(t, "Lost("+s+") by nobody", Lost(c, nil), false)
		if n := Index(c, peers, counted(5, 15)); n != 0 {
			t.Errorf("Index(%s): %d; want 0", s, n)
		}
	}
}

// plainMajority: are half of the voters among the peers, and with more 1 more than half? (The peers are each named once.)
func plainMajority(voters, peers []uint64, more int) bool {
	n := 0
	for _, p := range peers {
		if slices.Contains(voters, p) {
			n++
		}
	}
	return 2*n >= len(voters)+more
}

func TestQuorumOfAll(t *testing.T) { // P7.3: the plain definition, of all configurations of four peers and a stranger
	for _, c := range all(4) {
		for _, peers := range sets(counted(1, 5)) {
			q, l := plainMajority(c.Voters, peers, 1), plainMajority(c.Voters, peers, 0)
			if len(c.Old) > 0 {
				q = q && plainMajority(c.Old, peers, 1)
				l = l || plainMajority(c.Old, peers, 0)
			}
			wantIs(t, "Quorum"+told(c)+toldList(peers), Quorum(c, peers), q)
			wantIs(t, "Lost"+told(c)+toldList(peers), Lost(c, peers), l)
		}
	}
}

func TestIndex(t *testing.T) { // P7.4
	rows := []struct {
		c, peers, at string
		n            uint64
	}{
		{"1", "1", "5", 5}, {"1", "", "", 0}, {"1", "2", "5", 0}, {"1", "1", "18446744073709551615", math.MaxUint64}, {"1", "1", "0", 0},
		{"1 2", "1 2", "5 7", 5}, {"1 2", "2 1", "5 7", 5}, {"1 2", "2", "5", 0},
		{"1 2 3", "1 2 3", "5 7 9", 7}, {"1 2 3", "3 1 2", "5 7 9", 7}, {"1 2 3", "1 2 3", "9 5 5", 5}, {"1 2 3", "1 2 3", "9 9 5", 9},
		{"1 2 3", "1 2", "5 7", 5}, {"1 2 3", "1", "5", 0}, {"1 2 3", "1 2 3", "0 0 9", 0}, // who is not named has 0
		{"1 2 3 4", "1 2 3 4", "1 2 3 4", 2}, {"1 2 3 4 5", "1 2 3 4 5", "1 2 3 4 5", 3},
		{"1 2 3", "1 1 2", "9 3 4", 3}, {"1 2 3", "1 2 1", "3 4 9", 4}, {"1", "1 1", "9 0", 0}, {"1", "1 1 1", "9 0 2", 2}, // of one that is named twice the last one
		{"1 2 3", "1 2 3", "5 7", 0}, {"1 2 3", "1 2", "5 7 9", 0}, {"1", "1", "", 0}, {"1", "", "1", 0}, // not as many
		{"1", "1 2 3", "5 7 9", 5}, {"1 | | 2 3", "1 2 3", "5 7 9", 5}, {"1 2 3 | | 4 5", "1 2 3 4 5", "1 2 3 9 9", 2}, // others and learners count nothing
		{"2 3 | 1 2", "1 2 3", "4 6 8", 4}, {"2 3 4 | 1 2 3", "1 2 3 4", "1 2 9 9", 2}, {"1 | 2", "1 2", "3 9", 3}, {"1 | 2", "1 2", "9 3", 3}, {"1 | 2 3 4", "1 2 3 4", "9 1 2 3", 2},
		{"1 2 3 4 5 6 7 8 9", "9 8 7 6 5 4 3 2 1", "1 2 3 4 5 6 7 8 9", 5},
	}
	for _, r := range rows {
		if n := Index(of(r.c), list(r.peers), list(r.at)); n != r.n {
			t.Errorf("Index(%s; %s; %s): %d; want %d", r.c, r.peers, r.at, n, r.n)
		}
	}
}

// plainIndex goes down from the greatest number there is till a quorum has it.
func plainIndex(c api.Conf, peers, at []uint64) uint64 {
	for n := uint64(12); n > 0; n-- {
		var have []uint64
		for p := uint64(0); p < 10; p++ {
			last := uint64(0)
			for i := range peers {
				if peers[i] == p {
					last = at[i]
				}
			}
			if last >= n {
				have = append(have, p)
			}
		}
		if Quorum(c, have) {
			return n
		}
	}
	return 0
}

func TestIndexAgainstThePlainOne(t *testing.T) { // P7.4
	r := rand.New(rand.NewPCG(7, 4))
	for _, c := range all(5) {
		for range 8 {
			var peers, at []uint64
			for range r.IntN(12) {
				peers, at = append(peers, uint64(r.IntN(8))), append(at, uint64(r.IntN(10)))
			}
			if got, n := Index(c, peers, at), plainIndex(c, peers, at); got != n {
				t.Fatalf("Index%s %v, %v: %d; want %d", told(c), peers, at, got, n)
			}
		}
	}
}

func TestManyPeers(t *testing.T) { // P7.3, P7.4, R1
	c, many := of("1 2 3 | 3 4 5 | 6"), counted(2, 1<<20)
	wantIs(t, "Quorum of very many", Quorum(c, many), true)
	wantIs(t, "Lost by very many", Lost(c, many), true)
	if n := Index(c, many, many); n != 2 {
		t.Errorf("Index of very many: %d; want 2", n)
	}
}
