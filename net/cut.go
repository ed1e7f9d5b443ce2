package net

import "regatta/api"

// pair is two actors, low below high: a cut goes both ways, so that it has one form.
type pair struct{ low, high int }

func pairOf(a, b int) pair { return pair{min(a, b), max(a, b)} }

// Cut: the two are cut off from each other.
func (n *Net) Cut(a, b int) api.Errno {
	if !n.isPair(a, b) {
		return api.ErrArg
	}
	n.cut[pairOf(a, b)] = struct{}{}
	return api.OK
}

// Join: the two are cut off from each other no more.
func (n *Net) Join(a, b int) api.Errno {
	if !n.isPair(a, b) {
		return api.ErrArg
	}
	delete(n.cut, pairOf(a, b))
	return api.OK
}

// Heal: nobody is cut off.
func (n *Net) Heal() { clear(n.cut) }

// IsCut: are the two cut off from each other? Nobody is so from itself, or from what is no actor.
func (n *Net) IsCut(a, b int) bool {
	_, cut := n.cut[pairOf(a, b)]
	return cut
}

func (n *Net) isPair(a, b int) bool { return n.isActor(a) && n.isActor(b) && a != b }
