package conf

import (
	"slices"

	"regatta/api"
)

// Quorum: do the peers decide for c?
func Quorum(c api.Conf, peers []uint64) bool {
	return Check(c) == api.OK && agreed(c, voices(peers).among)
}

// Lost: have so many said no that the others cannot decide any more?
func Lost(c api.Conf, peers []uint64) bool {
	return Check(c) == api.OK && !agreed(c, voices(peers).missing)
}

// Index: the greatest number that a quorum has come to.
func Index(c api.Conf, peers, at []uint64) uint64 {
	if Check(c) != api.OK || len(peers) != len(at) {
		return 0
	}
	has := map[uint64]uint64{}
	for i, peer := range peers {
		has[peer] = at[i]
	}
	best := uint64(0)
	// A number that no member has is never the greatest one: those that have it have more.
	for _, peer := range Members(c) {
		if n := has[peer]; n > best && agreed(c, level{has, n}.reached) {
			best = n
		}
	}
	return best
}

// agreed is what a quorum is: of each list of voters that counts, more than half.
func agreed(c api.Conf, count func(voters []uint64) int) bool {
	return 2*count(c.Voters) > len(c.Voters) && (!Joint(c) || 2*count(c.Old) > len(c.Old))
}

// voices are the peers that have spoken, whatever each has said.
type voices []uint64

// among: how many of the voters have spoken, however often?
func (v voices) among(voters []uint64) int {
	count := 0
	for _, peer := range voters {
		if slices.Contains(v, peer) {
			count++
		}
	}
	return count
}

func (v voices) missing(voters []uint64) int { return len(voters) - v.among(voters) }

// level is a number, and what each peer has come to.
type level struct {
	has map[uint64]uint64
	n   uint64
}

func (l level) reached(voters []uint64) int {
	count := 0
	for _, peer := range voters {
		if l.has[peer] >= l.n {
			count++
		}
	}
	return count
}
