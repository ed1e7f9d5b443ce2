package vault

import (
	"slices"

	"regatta/api"
	"regatta/codec"
	"regatta/conf"
)

// full is how many bytes a piece has, but for the last one: as many as the engine takes.
const full = api.MaxRecord / 4

// Entry: an entry's bytes.
func Entry(x api.Entry) []byte {
	var c []byte
	if x.Kind == api.EntryConf {
		c = conf.Encode(x.Conf)
	}
	return codec.Row(codec.Varint(uint64(x.Kind)), codec.Varint(x.Term), codec.Varint(x.Index), x.Data, c)
}

func hardBytes(h api.Hard) []byte {
	return codec.Row(codec.Varint(h.Term), codec.Varint(h.Vote), codec.Varint(h.Commit))
}

func snapBytes(s api.Snap) []byte {
	return codec.Row(codec.Varint(s.Index), codec.Varint(s.Term), conf.Encode(s.Conf), s.Data)
}

// saveSnap: the snapshot is there, and no piece of another one.
func saveSnap(group uint64, s api.Snap) []api.Op {
	begin := part(group, snapPart)
	l := []api.Op{wipeAll(begin)}
	return append(l, pieces(piecesOf(begin), snapBytes(s))...)
}

// forget: the entries that the snapshot of r stands for are gone.
func forget(group uint64, r api.Ready) []api.Op {
	begin := part(group, entryPart)
	if !r.Emptied {
		return []api.Op{wipe(begin, behind(entryKeys(group)(r.Snap.Index)))}
	}
	return []api.Op{wipeAll(begin), {Kind: api.OpDelete, Key: part(group, lastPart)}}
}

// saveEntries: the entries are there, and no others from the first one's index on.
func saveEntries(group uint64, entries []api.Entry) []api.Op {
	key := entryKeys(group)
	l := []api.Op{wipe(key(entries[0].Index), behind(part(group, entryPart)))}
	last := uint64(0)
	for _, x := range entries {
		l = append(l, pieces(piecesOf(key(x.Index)), Entry(x))...)
		last = max(last, x.Index)
	}
	return append(l, put(part(group, lastPart), codec.Varint(last)))
}

// pieces puts b, cut to what the engine takes as a value, at the keys of 0, 1, ..; b is theirs from then on.
func pieces(key keys, b []byte) []api.Op {
	var l []api.Op
	for piece := range slices.Chunk(b, full) {
		l = append(l, put(key(uint64(len(l))), piece))
	}
	return l
}
