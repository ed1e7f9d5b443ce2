// Package row writes things of many parts as rows of fields (chapter 1's), and reads them again.
//
// It is no layer of the map: the layers whose chapters leave open how their
// bytes look write them by it. Whoever uses it says in one function, for each
// kind of thing, which parts it has; that one walk over the parts writes and
// reads, so that the two cannot part.
package row

import (
	"regatta/api"
	"regatta/codec"
)

// Walk goes over the parts of a thing, one behind the other: where it reads, each part is taken from its fields; else
// each is laid behind them.
type Walk struct {
	fields  [][]byte
	reading bool
	bad     bool // what is read is not what was ever written
}

// Write: the thing as bytes, its parts being those that parts goes over.
func Write[T any](x T, parts func(*Walk, *T)) []byte { return written([]T{x}, parts) }

// Read: the thing that was written so.
func Read[T any](b []byte, parts func(*Walk, *T)) (T, bool) {
	l, ok := taken(b, parts)
	if !ok || len(l) != 1 {
		var none T
		return none, false
	}
	return l[0], true
}

// List is a field that is a row of its own, of the parts of all elements.
func List[T any](w *Walk, l *[]T, parts func(*Walk, *T)) {
	if !w.reading {
		b := written(*l, parts)
		w.Text(&b)
		return
	}
	var b []byte
	w.Text(&b)
	x, ok := taken(b, parts)
	*l, w.bad = x, w.bad || !ok
}

// written: the parts of all elements as a row.
func written[T any](l []T, parts func(*Walk, *T)) []byte {
	w := &Walk{}
	for i := range l {
		parts(w, &l[i])
	}
	return codec.Row(w.fields...)
}

// taken: the list that was written so.
func taken[T any](b []byte, parts func(*Walk, *T)) ([]T, bool) {
	fields, e := codec.TakeRow(b)
	w := &Walk{fields: fields, reading: true, bad: e != api.OK}
	var l []T
	for len(w.fields) > 0 && !w.bad {
		var x T
		parts(w, &x)
		l = append(l, x)
	}
	if w.bad {
		return nil, false
	}
	return l, true
}

// Coded is a field in a form that others write and read.
func Coded[T any](w *Walk, x *T, write func(T) []byte, read func([]byte) (T, api.Errno)) {
	if !w.reading {
		b := write(*x)
		w.Text(&b)
		return
	}
	var b []byte
	w.Text(&b)
	y, e := read(b)
	*x, w.bad = y, w.bad || e != api.OK
}

// Refuse: what is read was never written so.
func (w *Walk) Refuse() { w.bad = true }

// Text is a field as it is.
func (w *Walk) Text(b *[]byte) {
	switch {
	case !w.reading:
		w.fields = append(w.fields, *b)
	case len(w.fields) == 0:
		w.bad = true
	default:
		*b, w.fields = w.fields[0], w.fields[1:]
	}
}

// Number is a field of a number alone.
func (w *Walk) Number(n *uint64) {
	if !w.reading {
		b := codec.Varint(*n)
		w.Text(&b)
		return
	}
	var b []byte
	w.Text(&b)
	x, rest, e := codec.TakeVarint(b)
	*n, w.bad = x, w.bad || e != api.OK || len(rest) > 0
}

// Numbers are fields one behind the other.
func (w *Walk) Numbers(l ...*uint64) {
	for _, n := range l {
		w.Number(n)
	}
}

// Count is a number of the machine's own size, below 0 too.
func (w *Walk) Count(n *int) {
	x := uint64(*n)
	w.Number(&x)
	if w.reading {
		*n, w.bad = int(x), w.bad || uint64(int(x)) != x
	}
}

// Yes is a field that says whether something is so.
func (w *Walk) Yes(is *bool) {
	x := uint64(0)
	if *is {
		x = 1
	}
	w.Number(&x)
	if w.reading {
		*is, w.bad = x == 1, w.bad || x > 1
	}
}
