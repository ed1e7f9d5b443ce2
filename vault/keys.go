package vault

import (
	"bytes"
	"math"
	"slices"

	"regatta/api"
	"regatta/codec"
)

// Areas: a key begins with the byte of its area, then the group's number comes.
const (
	keptArea   = iota + 1 // what Save keeps
	dataArea              // the group's data
	buriedArea            // a key for each peer that was buried, the greatest first
)

// Parts of what is kept of a group, behind its number. Hard comes first, as each Save keeps it.
const (
	hardPart  = iota + 1
	lastPart  // the greatest index of the entries that were kept last: without it nobody would miss the last ones
	snapPart  // pieces
	entryPart // by index, pieces of each
)

// keys makes the key of a number.
type keys func(n uint64) []byte

// under: keys that begin so, with the number behind, in the form that is handed in.
func under(begin []byte, number keys) keys {
	return func(n uint64) []byte { return slices.Concat(begin, number(n)) }
}

// area: by a group's number how its keys of the area begin.
func area(a byte) keys { return under([]byte{a}, codec.Uint) }

// part: how the keys of a part of what is kept of a group begin.
func part(group uint64, p byte) []byte { return append(area(keptArea)(group), p) }

// entryKeys: by an index how the keys of the entry's pieces begin.
func entryKeys(group uint64) keys { return under(part(group, entryPart), codec.Uint) }

// piecesOf: by a piece's number its key.
func piecesOf(begin []byte) keys { return under(begin, codec.Uint) }

// behind: the least key above all that begin so. There is one, as no area's byte is the greatest.
func behind(begin []byte) []byte {
	end := bytes.Clone(begin)
	for end[len(end)-1] == math.MaxUint8 {
		end = end[:len(end)-1]
	}
	end[len(end)-1]++
	return end
}

func put(key, value []byte) api.Op {
	return api.Op{Kind: api.OpPut, Key: key, Value: value}
}

func wipe(from, to []byte) api.Op {
	return api.Op{Kind: api.OpWipe, Key: from, End: to}
}

// wipeAll: all whose keys begin so.
func wipeAll(begin []byte) api.Op { return wipe(begin, behind(begin)) }
