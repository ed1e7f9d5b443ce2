package parcel

import (
	"bytes"
	"fmt"
	"testing"

	"regatta/api"
	"regatta/codec"
)

func TestAnyOrderAndHoweverOften(t *testing.T) { // P14.4
	r := dice()
	for range 2000 {
		b := anyBytes(r, r.IntN(50))
		l := pack(t, b, 1+r.IntN(12))
		x := boxFor(t, string(b))
		order := r.Perm(len(l))
		for i, at := range order {
			notDone(t, x)
			put(t, x, l[at], api.OK)
			for range r.IntN(3) {
				was := told(x)
				put(t, x, l[order[r.IntN(i+1)]], api.OK)
				if got := told(x); got != was {
					t.Fatalf("a piece put again: %s; want %s", got, was)
				}
			}
		}
		done(t, x, string(b))
		missing(t, x, "[]")
	}
}

// model is a box as the chapter tells of it, in the plainest way.
type model struct {
	sum    uint32
	length int
	items  []item
}

// item is a piece that is in the box.
type item struct {
	many, at uint64
	part     string
}

func (m *model) put(b []byte) api.Errno {
	row, behind, e := codec.TakeFrame(b)
	if e != api.OK {
		return e
	}
	f, e := codec.TakeRow(row)
	if e != api.OK {
		return e
	}
	if len(behind) != 0 || len(f) != 5 {
		return api.ErrForm
	}
	var n [4]uint64
	for i := range n {
		v, rest, e := codec.TakeVarint(f[i])
		if e != api.OK || len(rest) != 0 {
			return api.ErrForm
		}
		n[i] = v
	}
	if n[2] < 1 || n[3] >= n[2] {
		return api.ErrForm
	}
	if n[0] != uint64(m.sum) || n[1] != uint64(m.length) || len(f[4]) > m.length {
		return api.ErrParcel
	}
	it := item{n[2], n[3], string(f[4])}
	for _, o := range m.items {
		if o.many != it.many || o.at == it.at && o.part != it.part {
			return api.ErrParcel
		}
	}
	for _, o := range m.items {
		if o == it {
			return api.OK
		}
	}
	m.items = append(m.items, it)
	return api.OK
}

// told is what the box must tell.
func (m *model) told() string {
	if len(m.items) == 0 {
		return "[0]  false"
	}
	gone, b := []int{}, []byte{}
	for at := range m.items[0].many {
		there := false
		for _, o := range m.items {
			if o.at == at {
				there = true
				b = append(b, o.part...)
			}
		}
		if !there && len(gone) < api.MaxScan {
			gone = append(gone, int(at))
		}
		if len(gone) == api.MaxScan {
			break
		}
	}
	ok := len(gone) == 0 && len(b) == m.length && codec.Sum(b) == m.sum
	if !ok {
		b = nil
	}
	return fmt.Sprintf("%v %x %t", gone, b, ok)
}

func TestAsTheModel(t *testing.T) { // P14.2 to P14.4: pieces of Pack, those of others, made ones and turned ones
	r := dice()
	met := map[api.Errno]int{}
	whole, full := 0, 0
	for range 6000 {
		text := anyBytes(r, r.IntN(6))
		if r.IntN(3) == 0 {
			text = make([]byte, r.IntN(6))
		}
		other := anyBytes(r, len(text))
		x, m := boxFor(t, string(text)), &model{sum: codec.Sum(text), length: len(text)}
		size := 1 + r.IntN(3)
		for range 12 {
			var p []byte
			switch r.IntN(8) {
			case 0, 1, 2, 3:
				l := pack(t, text, size)
				p = l[r.IntN(len(l))]
			case 4:
				l := pack(t, text, 1+r.IntN(3))
				p = l[r.IntN(len(l))]
			case 5:
				l := pack(t, other, size)
				p = l[r.IntN(len(l))]
			case 6:
				p = of(string(text), uint64(r.IntN(4)), uint64(r.IntN(4)), string(anyBytes(r, r.IntN(4))))
			case 7:
				l := pack(t, text, size)
				p = bytes.Clone(l[r.IntN(len(l))])
				p[r.IntN(len(p))] ^= byte(1 + r.IntN(255))
				p = p[:len(p)-r.IntN(2)]
			}
			w := m.put(p)
			met[w]++
			put(t, x, p, w)
			if got, w := told(x), m.told(); got != w {
				t.Fatalf("behind Put(%x): %s; want %s", p, got, w)
			}
		}
		got, ok := x.Done()
		if ok && (len(got) != len(text) || codec.Sum(got) != codec.Sum(text)) {
			t.Errorf("Done tells %x for %x", got, text)
		}
		if ok {
			whole++
		}
		if len(x.Missing()) == 0 {
			full++
		}
	}
	for _, e := range []api.Errno{api.OK, api.ErrParcel, api.ErrForm, api.ErrShort, api.ErrSum} {
		if met[e] < 100 {
			t.Errorf("error %d is met %d times: the test shows little", e, met[e])
		}
	}
	if whole < 500 || full-whole < 50 {
		t.Errorf("%d boxes are done, %d of %d full ones not: the test shows little", whole, full-whole, full)
	}
}

func TestTurnedPiecesAreRefused(t *testing.T) { // P14.4: whichever byte is turned
	r := dice()
	b := anyBytes(r, 30)
	for _, p := range pack(t, b, 11) {
		for i := range p {
			for _, turn := range []byte{1, 2, 4, 8, 16, 32, 64, 128, 255} {
				x := boxFor(t, string(b))
				turned := bytes.Clone(p)
				turned[i] ^= turn
				if e := x.Put(turned); e == api.OK || e == api.ErrParcel {
					t.Errorf("byte %d turned: error %d", i, e)
				}
				missing(t, x, "[0]")
			}
		}
	}
}

func TestAnyBytesAreNoPanic(t *testing.T) { // R1
	r := dice()
	x := boxFor(t, "abc")
	for range 20000 {
		b := anyBytes(r, r.IntN(30))
		if r.IntN(2) == 0 {
			b = codec.Frame(b)
		}
		x.Put(b)
		told(x)
	}
}
