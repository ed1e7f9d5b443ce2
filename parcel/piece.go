package parcel

import (
	"regatta/api"
	"regatta/codec"
)

// fieldCount is how many fields a piece's row has: four numbers and the part.
const fieldCount = 5

// whole says which bytes are meant.
type whole struct{ sum, length uint64 }

func wholeOf(b []byte) whole { return whole{uint64(codec.Sum(b)), uint64(len(b))} }

// piece is a part of the bytes that are meant, with its number among how many.
type piece struct {
	whole
	many, at uint64
	part     []byte
}

func (p piece) written() []byte {
	return codec.Frame(codec.Row(codec.Varint(p.sum), codec.Varint(p.length), codec.Varint(p.many), codec.Varint(p.at), p.part))
}

// takePiece reads what written made; nothing may stand behind it.
func takePiece(b []byte) (piece, api.Errno) {
	row, behind, e := codec.TakeFrame(b)
	if e != api.OK {
		return piece{}, e
	}
	fields, e := codec.TakeRow(row)
	if e != api.OK {
		return piece{}, e
	}
	if len(behind) > 0 || len(fields) != fieldCount {
		return piece{}, api.ErrForm
	}
	p := piece{part: fields[fieldCount-1]}
	for i, to := range []*uint64{&p.sum, &p.length, &p.many, &p.at} {
		n, rest, e := codec.TakeVarint(fields[i])
		if e != api.OK || len(rest) > 0 {
			return piece{}, api.ErrForm
		}
		*to = n
	}
	// Of no pieces no number is below how many: so that is refused, too.
	if p.at >= p.many {
		return piece{}, api.ErrForm
	}
	return p, api.OK
}
