package conf

import (
	"slices"

	"regatta/api"
)

// What a peer is to a group; one that is nothing to it has no seat.
const (
	voter = iota + 1
	learner
)

// seats is what each member is while changes are done: no list has to be kept in order between two of them.
type seats map[uint64]int

// Enter: what c becomes by the changes: joint, if they are to the voters.
func Enter(c api.Conf, l []api.Change) (api.Conf, api.Errno) {
	if Check(c) != api.OK {
		return api.Conf{}, api.ErrConf
	}
	if Joint(c) {
		return api.Conf{}, api.ErrJoint
	}
	s := seatsOf(c)
	for _, x := range l {
		if e := s.change(x); e != api.OK {
			return api.Conf{}, e
		}
	}
	next := api.Conf{Voters: s.of(voter), Learners: s.of(learner)}
	if !slices.Equal(next.Voters, c.Voters) {
		next.Old = slices.Clone(c.Voters)
	}
	if Check(next) != api.OK {
		return api.Conf{}, api.ErrConf
	}
	return next, api.OK
}

// Leave: a joint c without Old.
func Leave(c api.Conf) (api.Conf, api.Errno) {
	if Check(c) != api.OK {
		return api.Conf{}, api.ErrConf
	}
	if !Joint(c) {
		return api.Conf{}, api.ErrJoint
	}
	return api.Conf{Voters: slices.Clone(c.Voters), Learners: slices.Clone(c.Learners)}, api.OK
}

// seatsOf: c is one that Check takes, and not joint.
func seatsOf(c api.Conf) seats {
	s := seats{}
	for _, peer := range c.Voters {
		s[peer] = voter
	}
	for _, peer := range c.Learners {
		s[peer] = learner
	}
	return s
}

func (s seats) change(x api.Change) api.Errno {
	if x.Peer == 0 {
		return api.ErrConf
	}
	switch x.Kind {
	case api.ChangeVoter:
		s[x.Peer] = voter
	case api.ChangeLearner:
		if s[x.Peer] == voter {
			return api.ErrConf
		}
		s[x.Peer] = learner
	case api.ChangeRemove:
		delete(s, x.Peer)
	default:
		return api.ErrConf
	}
	return api.OK
}

// of: all peers with such a seat, rising.
func (s seats) of(seat int) []uint64 {
	var l []uint64
	for peer, has := range s {
		if has == seat {
			l = append(l, peer)
		}
	}
	slices.Sort(l)
	return l
}
