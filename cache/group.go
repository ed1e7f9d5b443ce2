package cache

import (
	"bytes"
	"slices"
)

// Group: keys, which rise, in pieces: neighbours in one region stand together.
func (c *Cache) Group(keys [][]byte) [][][]byte {
	if !rises(keys) {
		return nil
	}
	var pieces [][][]byte
	own := cloned(keys)
	for len(own) > 0 {
		n := c.together(own)
		pieces = append(pieces, own[:n:n]) // whoever appends to a piece doesn't write into the next one
		own = own[n:]
	}
	return pieces
}

// together: how many of the keys, the first one among them, stand in one piece.
func (c *Cache) together(keys [][]byte) int {
	first := c.at(keys[0])
	if first < 0 {
		return 1
	}
	n := slices.IndexFunc(keys, func(key []byte) bool { return c.at(key) != first })
	if n < 0 {
		return len(keys)
	}
	return n
}

// rises: is each key above the one ahead of it?
func rises(keys [][]byte) bool {
	for i := 1; i < len(keys); i++ {
		if bytes.Compare(keys[i-1], keys[i]) >= 0 {
			return false
		}
	}
	return true
}

// cloned: the same keys in new memory.
func cloned(keys [][]byte) [][]byte {
	l := make([][]byte, len(keys))
	for i, key := range keys {
		l[i] = bytes.Clone(key)
	}
	return l
}
