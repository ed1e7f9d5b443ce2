package state

import (
	"regatta/api"
	"regatta/codec"
)

// row is the fields of a list's elements, one behind the other. One walk over a thing's parts writes and reads it,
// so that the two cannot part: where the row is read, each part is taken from it; else each is laid into it.
type row struct {
	fields  [][]byte
	reading bool
	bad     bool // what is read is not what was ever written
}

// written: the list as a row, each element laid by each.
func written[T any](l []T, each func(*row, *T)) []byte {
	r := &row{}
	for i := range l {
		each(r, &l[i])
	}
	return codec.Row(r.fields...)
}

// taken: the list that was written so.
func taken[T any](b []byte, each func(*row, *T)) ([]T, bool) {
	fields, e := codec.TakeRow(b)
	r := &row{fields: fields, reading: true, bad: e != api.OK}
	var l []T
	for len(r.fields) > 0 && !r.bad {
		var x T
		each(r, &x)
		l = append(l, x)
	}
	if r.bad {
		return nil, false
	}
	return l, true
}

// list is a field that is a row of its own.
func list[T any](r *row, l *[]T, each func(*row, *T)) {
	if !r.reading {
		b := written(*l, each)
		r.text(&b)
		return
	}
	var b []byte
	r.text(&b)
	x, ok := taken(b, each)
	*l, r.bad = x, r.bad || !ok
}

// text is a field as it is.
func (r *row) text(b *[]byte) {
	switch {
	case !r.reading:
		r.fields = append(r.fields, *b)
	case len(r.fields) == 0:
		r.bad = true
	default:
		*b, r.fields = r.fields[0], r.fields[1:]
	}
}

func (r *row) number(n *uint64) {
	if !r.reading {
		b := codec.Varint(*n)
		r.text(&b)
		return
	}
	var b []byte
	r.text(&b)
	x, rest, e := codec.TakeVarint(b)
	*n, r.bad = x, r.bad || e != api.OK || len(rest) > 0
}

func (r *row) numbers(l ...*uint64) {
	for _, n := range l {
		r.number(n)
	}
}

// count is a number of the machine's own size, below 0 too.
func (r *row) count(n *int) {
	x := uint64(*n)
	r.number(&x)
	if r.reading {
		*n, r.bad = int(x), r.bad || uint64(int(x)) != x
	}
}

func (r *row) yes(is *bool) {
	x := uint64(0)
	if *is {
		x = 1
	}
	r.number(&x)
	if r.reading {
		*is, r.bad = x == 1, r.bad || x > 1
	}
}
