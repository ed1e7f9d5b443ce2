package vault

import (
	"bytes"
	"math"

	"regatta/api"
	"regatta/codec"
	"regatta/conf"
)

// TakeEntry: the entry whose Entry b is.
func TakeEntry(b []byte) (api.Entry, api.Errno) {
	return guarded(api.ErrForm, func() api.Entry { return entryOf(b) })
}

// guarded does read, which panics where something is not as it was written: then the answer is refused.
func guarded[T any](refused api.Errno, read func() T) (out T, code api.Errno) {
	defer func() {
		if recover() != nil {
			code = refused
		}
	}()
	return read(), api.OK
}

// must: a reader goes no further where this does not hold.
func must(holds bool) {
	if !holds {
		panic("not as it was written")
	}
}

// pile is pairs by rising keys; what is read is taken off its beginning.
type pile []api.Pair

// take: the value at the key, if that is what comes next.
func (p *pile) take(key []byte) ([]byte, bool) {
	l := *p
	if len(l) == 0 || !bytes.Equal(l[0].Key, key) {
		return nil, false
	}
	*p = l[1:]
	return l[0].Value, true
}

// whole joins pieces; none is there, if it has no byte.
func (p *pile) whole(key keys) []byte {
	var b []byte
	for n := 0; ; n++ {
		piece, there := p.take(key(uint64(n)))
		if !there {
			return b
		}
		must(len(b) == n*full && len(piece) > 0)
		b = append(b, piece...)
	}
}

// saved reads all that Save kept of the group; nothing else may lie there.
func (p *pile) saved(group uint64) api.Saved {
	var s api.Saved
	hard, _ := p.take(part(group, hardPart)) // what is not there has no byte, and no row has none
	s.Hard = hardOf(hard)
	last := p.last(group)
	s.Snap = p.snap(group)
	s.Entries = p.entries(group, s.Snap.Index)
	// Where entries are gone that a snapshot covers, what was noted as the last index may be one of theirs.
	must(s.Snap.Index+uint64(len(s.Entries)) == max(last, s.Snap.Index))
	return s
}

func (p *pile) last(group uint64) uint64 {
	b, there := p.take(part(group, lastPart))
	if !there {
		return 0
	}
	return numberOf(b)
}

func (p *pile) snap(group uint64) api.Snap {
	b := p.whole(piecesOf(part(group, snapPart)))
	if len(b) == 0 {
		return api.Snap{}
	}
	return snapOf(b)
}

// entries: those behind the index, one by one, and then nothing.
func (p *pile) entries(group, index uint64) []api.Entry {
	var l []api.Entry
	for key := entryKeys(group); len(*p) > 0; {
		must(index < math.MaxUint64)
		index++
		x := entryOf(p.whole(piecesOf(key(index))))
		must(x.Index == index)
		l = append(l, x)
	}
	return l
}

// greatest: of the peers whose keys these are.
func (p *pile) greatest(begin []byte) uint64 {
	most := uint64(0)
	for _, grave := range *p {
		peer, rest, code := codec.TakeDesc(grave.Key[len(begin):])
		must(code == api.OK && len(rest) == 0 && len(grave.Value) == 0)
		most = max(most, peer)
	}
	return most
}

// groupOf: the group whose first key this is.
func groupOf(key []byte) uint64 {
	group, rest, code := codec.TakeUint(key[1:])
	must(code == api.OK && bytes.Equal(rest, []byte{hardPart}))
	return group
}

func hardOf(b []byte) api.Hard {
	f := rowOf(b, 3)
	return api.Hard{Term: f.number(), Vote: f.number(), Commit: f.number()}
}

func snapOf(b []byte) api.Snap {
	f := rowOf(b, 4)
	s := api.Snap{Index: f.number(), Term: f.number(), Conf: f.conf(), Data: f.next()}
	must(s.Index != 0)
	return s
}

func entryOf(b []byte) api.Entry {
	f := rowOf(b, 5)
	kind, term, index, data, c := f.number(), f.number(), f.number(), f.next(), f.next()
	x := api.Entry{Kind: int(kind), Term: term, Index: index}
	switch kind {
	case api.EntryData:
		x.Data = data
		must(len(c) == 0)
	case api.EntryConf:
		x.Conf = confOf(c)
		must(len(data) == 0)
	default:
		must(kind == api.EntryNone && len(data) == 0 && len(c) == 0)
	}
	return x
}

func confOf(b []byte) api.Conf {
	c, code := conf.Decode(b)
	must(code == api.OK)
	return c
}

func numberOf(b []byte) uint64 {
	n, rest, code := codec.TakeVarint(b)
	must(code == api.OK && len(rest) == 0)
	return n
}

// row is the fields that are still to be read.
type row [][]byte

// rowOf: b is a row of so many fields.
func rowOf(b []byte, count int) *row {
	fields, code := codec.TakeRow(b)
	must(code == api.OK && len(fields) == count)
	r := row(fields)
	return &r
}

func (r *row) next() []byte {
	field := (*r)[0]
	*r = (*r)[1:]
	return field
}

func (r *row) number() uint64 { return numberOf(r.next()) }

func (r *row) conf() api.Conf { return confOf(r.next()) }
