package region

import (
	"math"

	"regatta/api"
	"regatta/codec"
)

// How many fields stand ahead of the peers, and how many a peer has.
const (
	headFields = 5
	peerFields = 3
)

// Encode: a row of the number, the range, the epoch, and a row for each peer.
func Encode(r api.Region) []byte {
	fields := [][]byte{codec.Varint(r.ID), r.Start, r.End, codec.Varint(r.Epoch.Conf), codec.Varint(r.Epoch.Version)}
	for _, p := range r.Peers {
		fields = append(fields, encodePeer(p))
	}
	return codec.Row(fields...)
}

// Decode reads what Encode made, of a region that Check refuses, too.
func Decode(b []byte) (api.Region, api.Errno) {
	fields, e := codec.TakeRow(b)
	if e != api.OK || len(fields) < headFields {
		return api.Region{}, api.ErrForm
	}
	head, ok := takeNumbers(fields[0], fields[3], fields[4])
	if !ok {
		return api.Region{}, api.ErrForm
	}
	r := api.Region{ID: head[0], Start: fields[1], End: fields[2], Epoch: api.Epoch{Conf: head[1], Version: head[2]}}
	for _, f := range fields[headFields:] {
		p, ok := decodePeer(f)
		if !ok {
			return api.Region{}, api.ErrForm
		}
		r.Peers = append(r.Peers, p)
	}
	return r, api.OK
}

func encodePeer(p api.Peer) []byte {
	learner := uint64(0)
	if p.Learner {
		learner = 1
	}
	return codec.Row(codec.Varint(p.ID), codec.Varint(uint64(p.Store)), codec.Varint(learner))
}

func decodePeer(b []byte) (api.Peer, bool) {
	fields, e := codec.TakeRow(b)
	if e != api.OK || len(fields) != peerFields {
		return api.Peer{}, false
	}
	n, ok := takeNumbers(fields...)
	if !ok || n[1] > math.MaxInt32 || n[2] > 1 {
		return api.Peer{}, false
	}
	return api.Peer{ID: n[0], Store: int(n[1]), Learner: n[2] == 1}, true
}

// takeNumbers: a number of each field, if each is one and nothing beside.
func takeNumbers(fields ...[]byte) ([]uint64, bool) {
	var l []uint64
	for _, f := range fields {
		n, rest, e := codec.TakeVarint(f)
		if e != api.OK || len(rest) > 0 {
			return nil, false
		}
		l = append(l, n)
	}
	return l, true
}
