package region

import (
	"bytes"
	"cmp"
	"slices"

	"regatta/api"
	"regatta/conf"
)

// seat is what two regions must have alike to become one: the numbers of their peers are their own.
type seat struct {
	store   int
	learner bool
}

// Split: r up to the key, and a new region from there on.
func Split(r api.Region, key []byte, id uint64, peers []uint64) (api.Region, api.Region, api.Errno) {
	if e := checkSplit(r, key, id, peers); e != api.OK {
		return api.Region{}, api.Region{}, e
	}
	r.Epoch.Version++
	low, high := clone(r), clone(r)
	low.End = bytes.Clone(key)
	high.ID = id
	high.Start = bytes.Clone(key)
	for i, n := range peers {
		high.Peers[i].ID = n
	}
	return low, high, api.OK
}

func checkSplit(r api.Region, key []byte, id uint64, peers []uint64) api.Errno {
	if e := Check(r); e != api.OK {
		return e
	}
	if !Covers(r, key) || bytes.Equal(key, r.Start) {
		return api.ErrRange
	}
	if len(key) > api.MaxKey || id == 0 || id == r.ID || len(peers) != len(r.Peers) || !rises(peers) || greatest(r.Epoch.Version) {
		return api.ErrArg
	}
	return api.OK
}

// Merge: the target with the source's range beside its own.
func Merge(target, source api.Region) (api.Region, api.Errno) {
	if e := checkMerge(target, source); e != api.OK {
		return api.Region{}, e
	}
	if follows(source, target) {
		target.End = source.End
	} else {
		target.Start = source.Start
	}
	target.Epoch.Version = max(target.Epoch.Version, source.Epoch.Version) + 1
	return clone(target), api.OK
}

func checkMerge(target, source api.Region) api.Errno {
	if e := Check(target); e != api.OK {
		return e
	}
	if e := Check(source); e != api.OK {
		return e
	}
	if target.ID == source.ID {
		return api.ErrArg
	}
	if !follows(target, source) && !follows(source, target) {
		return api.ErrRange
	}
	if !slices.Equal(seats(target), seats(source)) {
		return api.ErrEpoch
	}
	if greatest(target.Epoch.Version) || greatest(source.Epoch.Version) {
		return api.ErrArg
	}
	return api.OK
}

// follows: does b begin where a ends? An End without a byte is no place.
func follows(b, a api.Region) bool {
	return len(a.End) > 0 && bytes.Equal(a.End, b.Start)
}

func seats(r api.Region) []seat {
	var l []seat
	for _, p := range r.Peers {
		l = append(l, seat{store: p.Store, learner: p.Learner})
	}
	// No two peers of a region are on one store.
	slices.SortFunc(l, func(a, b seat) int { return cmp.Compare(a.store, b.store) })
	return l
}

// Members: r with the members that the configuration has.
func Members(r api.Region, c api.Conf, places []api.Peer) (api.Region, api.Errno) {
	if conf.Check(c) != api.OK || greatest(r.Epoch.Conf) {
		return api.Region{}, api.ErrArg
	}
	var peers []api.Peer
	for _, id := range conf.Members(c) {
		store, known := storeOf(id, r.Peers, places)
		if !known {
			return api.Region{}, api.ErrArg
		}
		peers = append(peers, api.Peer{ID: id, Store: store, Learner: !conf.Votes(c, id)})
	}
	r.Peers = peers
	r.Epoch.Conf++
	if Check(r) != api.OK {
		return api.Region{}, api.ErrArg
	}
	return clone(r), api.OK
}

// storeOf: where the first of the lists that names the peer says that it is.
func storeOf(id uint64, lists ...[]api.Peer) (int, bool) {
	for _, l := range lists {
		if i := slices.IndexFunc(l, func(p api.Peer) bool { return p.ID == id }); i >= 0 {
			return l[i].Store, true
		}
	}
	return 0, false
}

// clone: the same in new memory.
func clone(r api.Region) api.Region {
	r.Start = bytes.Clone(r.Start)
	r.End = bytes.Clone(r.End)
	r.Peers = slices.Clone(r.Peers)
	return r
}
