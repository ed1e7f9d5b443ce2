package parcel

import (
	"bytes"

	"regatta/api"
	"regatta/codec"
)

// Box is where the pieces of some bytes are gathered.
type Box struct {
	whole
	many  uint64            // what the pieces in the box say; 0, as long as it has none
	parts map[uint64][]byte // by their numbers
}

// NewBox: a box for the bytes with that sum and length.
func NewBox(sum uint32, length int) (*Box, api.Errno) {
	if length < 0 || length > api.MaxRecord {
		return nil, api.ErrArg
	}
	return &Box{whole: whole{uint64(sum), uint64(length)}, parts: map[uint64][]byte{}}, api.OK
}

// Put: the piece is in the box, if it is one, and belongs to what is there.
func (x *Box) Put(b []byte) api.Errno {
	p, e := takePiece(b)
	if e != api.OK {
		return e
	}
	if !x.belongs(p) {
		return api.ErrParcel
	}
	x.many = p.many
	x.parts[p.at] = p.part
	return api.OK
}

// belongs: may p stand beside the pieces that are in the box?
func (x *Box) belongs(p piece) bool {
	if p.whole != x.whole || uint64(len(p.part)) > x.length {
		return false
	}
	if x.many > 0 && p.many != x.many {
		return false
	}
	part, there := x.parts[p.at]
	return !there || bytes.Equal(part, p.part)
}

// Missing: the numbers of pieces that are not in the box, from the least on.
func (x *Box) Missing() []int {
	var out []int
	// As long as nobody has said how many there are, there is one at least.
	for n := range max(1, x.many) {
		if len(out) == api.MaxScan {
			break
		}
		if _, there := x.parts[n]; !there {
			out = append(out, int(n))
		}
	}
	return out
}

// Done: the bytes, if all of them are there and are those that are meant.
func (x *Box) Done() ([]byte, bool) {
	if !all(x.full, x.fits) {
		return nil, false
	}
	b := x.joined()
	if uint64(codec.Sum(b)) != x.sum {
		return nil, false
	}
	return b, true
}

// full: is each piece there?
func (x *Box) full() bool { return x.many > 0 && uint64(len(x.parts)) == x.many }

// fits: have the parts that are there as many bytes as the whole?
func (x *Box) fits() bool {
	length := uint64(0)
	for _, part := range x.parts {
		length += uint64(len(part))
	}
	return length == x.length
}

// joined: the parts one behind the other. Of a full box that fits alone: else there may be any number of pieces, and of bytes.
func (x *Box) joined() []byte {
	b := make([]byte, 0, x.length)
	for n := range x.many {
		b = append(b, x.parts[n]...)
	}
	return b
}

// all: does each one hold? Those behind the first that does not are not asked.
func all(asked ...func() bool) bool {
	for _, holds := range asked {
		if !holds() {
			return false
		}
	}
	return true
}
