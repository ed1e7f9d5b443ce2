package engine

import (
	"bytes"
	"iter"

	"regatta/api"
)

// view is what is there at one time. It is never changed: what is laid into it
// or cut out of it makes another one, and both share what they have in common.
// So a snapshot costs nothing.
type view struct{ top *node }

// node is a pair in a tree: left of it are the lesser keys, right of it the
// greater ones, and none of these has a greater rank.
type node struct {
	pair        api.Pair
	rank        uint64
	left, right *node
}

// viewOf: the view of pairs that rise.
func viewOf(l []api.Pair) view {
	var top *node
	for _, p := range l {
		top = join(top, leaf(p))
	}
	return view{top}
}

// find: the key's node; nil, if it is not there.
func (v view) find(key []byte) *node {
	n := v.top
	for n != nil {
		order := bytes.Compare(key, n.pair.Key)
		if order == 0 {
			return n
		}
		if order < 0 {
			n = n.left
		} else {
			n = n.right
		}
	}
	return nil
}

// get: the key's value, to be told.
func (v view) get(key []byte) ([]byte, bool) {
	n := v.find(key)
	if n == nil {
		return nil, false
	}
	return bytes.Clone(n.pair.Value), true
}

// scan: at most limit pairs of a range, to be told.
func (v view) scan(from, to []byte, limit int) []api.Pair {
	if limit < 1 {
		return nil
	}
	var out []api.Pair
	for p := range v.pairs(from, to) {
		out = append(out, api.Pair{Key: bytes.Clone(p.Key), Value: bytes.Clone(p.Value)})
		if len(out) == limit {
			break
		}
	}
	return out
}

// pairs walks over the pairs from a key on that are below to (all from it on, if to is empty), rising.
func (v view) pairs(from, to []byte) iter.Seq[api.Pair] {
	return func(yield func(api.Pair) bool) { v.top.walk(from, to, yield) }
}

// walk: is the walk to go on?
func (n *node) walk(from, to []byte, yield func(api.Pair) bool) bool {
	if n == nil {
		return true
	}
	above := bytes.Compare(n.pair.Key, from) >= 0
	below := len(to) == 0 || bytes.Compare(n.pair.Key, to) < 0
	if above && !n.left.walk(from, to, yield) {
		return false
	}
	if above && below && !yield(n.pair) {
		return false
	}
	return !below || n.right.walk(from, to, yield)
}

// with: the view with this pair, in the place of the one that has its key.
func (v view) with(p api.Pair) view {
	below, rest := split(v.top, p.Key)
	_, above := split(rest, behind(p.Key))
	return view{join(join(below, leaf(p)), above)}
}

// without: the view without the pairs of a range.
func (v view) without(from, to []byte) view {
	below, rest := split(v.top, from)
	if len(to) == 0 {
		return view{below}
	}
	// A range may end ahead of its beginning: all of the rest is above it then.
	_, above := split(rest, to)
	return view{join(below, above)}
}

// split: the nodes whose keys are below this one, and the others.
func split(n *node, key []byte) (below, rest *node) {
	if n == nil {
		return nil, nil
	}
	if bytes.Compare(n.pair.Key, key) < 0 {
		below, rest = split(n.right, key)
		return n.over(n.left, below), rest
	}
	below, rest = split(n.left, key)
	return below, n.over(rest, n.right)
}

// join: the nodes of both, where each key of the second is above all of the first.
func join(a, b *node) *node {
	switch {
	case a == nil:
		return b
	case b == nil:
		return a
	case a.rank >= b.rank:
		return a.over(a.left, join(a.right, b))
	}
	return b.over(join(a, b.left), b.right)
}

// over: the node's pair over these two; the node itself where they are its own.
func (n *node) over(left, right *node) *node {
	if n.left == left && n.right == right {
		return n
	}
	return &node{pair: n.pair, rank: n.rank, left: left, right: right}
}

func leaf(p api.Pair) *node { return &node{pair: p, rank: rank(p.Key)} }

// rank throws keys about: keys whose ranks are in no order make a tree that is
// not much higher than it must be, in whatever order they come. First all bytes
// go into one number (FNV-1a), then each of its bits is laid on all others (as
// in MurmurHash3): without that, keys that are alike have ranks in a row.
func rank(key []byte) uint64 {
	h := uint64(0xcbf29ce484222325)
	for _, b := range key {
		h = (h ^ uint64(b)) * 0x100000001b3
	}
	h = (h ^ h>>33) * 0xff51afd7ed558ccd
	h = (h ^ h>>33) * 0xc4ceb9fe1a85ec53
	return h ^ h>>33
}

// behind is the least key above this one.
func behind(key []byte) []byte { return append(key[:len(key):len(key)], 0) }
