package tso

import (
	"math/rand/v2"
	"slices"
	"testing"

	"regatta/api"
)

// anyCount is a count near what may be asked: some are refused.
func anyCount(r *rand.Rand) int {
	switch r.IntN(4) {
	case 0:
		return r.IntN(5) - 1
	case 1:
		return api.MaxWindow - 2 + r.IntN(4)
	}
	return 1 + r.IntN(api.MaxWindow)
}

// model is an oracle as the chapter tells of it, in the plainest way: number by number.
type model struct {
	next, limit uint64
}

func (m *model) take(n int) ([]uint64, api.Errno) {
	if n < 1 || n > api.MaxWindow {
		return nil, api.ErrArg
	}
	var l []uint64
	for i := range n {
		number := m.next + uint64(i)
		if number > m.limit {
			return nil, api.ErrWindow
		}
		l = append(l, number)
	}
	m.next += uint64(n)
	return l, api.OK
}

func (m *model) wants(n int) (uint64, bool) {
	try := *m
	if _, e := try.take(n); e != api.ErrWindow {
		return 0, false
	}
	return m.next - 1 + uint64(n) + api.MaxWindow, true
}

func TestFollowsTheModel(t *testing.T) { // P15.1, P15.2
	r := dice()
	met := map[api.Errno]int{}
	for range 300 {
		from := r.Uint64N(5000)
		o, m := New(from), &model{from + 1, from}
		last := from
		for range 60 {
			n := anyCount(r)
			limit, ok := o.Want(n)
			if wl, wok := m.wants(n); limit != wl || ok != wok {
				t.Fatalf("Want(%d): %d, %t; want %d, %t", n, limit, ok, wl, wok)
			}
			switch r.IntN(3) {
			case 0:
				limit = o.Limit() + r.Uint64N(3000) - min(o.Limit(), 1500)
				fallthrough
			case 1:
				o.Grant(limit)
				m.limit = max(m.limit, limit)
			}
			first, e := o.Take(n)
			l, we := m.take(n)
			if e != we || e == api.OK && first != l[0] || e != api.OK && first != 0 {
				t.Fatalf("Take(%d): %d, error %d; want error %d", n, first, e, we)
			}
			met[e]++
			if e == api.OK {
				if first <= last || l[n-1] > o.Limit() { // P15.2
					t.Fatalf("Take(%d): %d; the last one was %d, the limit is %d", n, first, last, o.Limit())
				}
				last = l[n-1]
			}
			if o.Last() != m.next-1 || o.Last() != last || o.Limit() != m.limit {
				t.Fatalf("Last %d, Limit %d; want %d, %d", o.Last(), o.Limit(), m.next-1, m.limit)
			}
		}
	}
	for _, e := range []api.Errno{api.OK, api.ErrArg, api.ErrWindow} {
		if met[e] < 1000 {
			t.Errorf("error %d was met %d times only", e, met[e])
		}
	}
}

func TestWhoComesNextBeginsAbove(t *testing.T) { // P15.2: no number twice, one oracle behind the other
	r := dice()
	for range 200 {
		var all []uint64
		known := uint64(0)
		for range 5 {
			o := New(known + r.Uint64N(2))
			known = o.Limit()
			for range r.IntN(6) {
				n := 1 + r.IntN(40)
				if limit, ok := o.Want(n); ok {
					known = max(known, limit)
					o.Grant(limit)
				}
				first, e := o.Take(n)
				if e != api.OK {
					t.Fatalf("Take(%d): error %d, though its want was granted", n, e)
				}
				for i := range n {
					all = append(all, first+uint64(i))
				}
			}
		}
		for i := range len(all) - 1 {
			if all[i] >= all[i+1] {
				t.Fatalf("%d is given, and then %d", all[i], all[i+1])
			}
		}
	}
}

func TestOraclesHaveNothingInCommon(t *testing.T) { // R4
	a, b := New(10), New(10)
	a.Grant(20)
	given(t, a, 5, 11)
	stands(t, b, 10, 10)
	refused(t, b, 1, api.ErrWindow)
	wanted(t, b, 1, 11+api.MaxWindow)
	wanted(t, a, 6, 21+api.MaxWindow)
	b.Grant(12)
	stands(t, a, 15, 20)
	given(t, b, 2, 11)
	given(t, a, 5, 16)
}

func TestTheSameAgain(t *testing.T) { // R4
	run := func() []uint64 {
		r := dice()
		o := New(3)
		var told []uint64
		for range 500 {
			n := anyCount(r)
			limit, _ := o.Want(n)
			if r.IntN(2) == 0 {
				o.Grant(limit)
			}
			first, e := o.Take(n)
			told = append(told, limit, first, uint64(e), o.Last(), o.Limit())
		}
		return told
	}
	if !slices.Equal(run(), run()) {
		t.Error("the same calls come to other answers")
	}
}

func TestVeryMany(t *testing.T) { // R1
	o := New(0)
	next := uint64(1)
	for range 200000 {
		if limit, ok := o.Want(100); ok {
			o.Grant(limit)
		}
		first, e := o.Take(100)
		if first != next || e != api.OK {
			t.Fatalf("Take(100): %d, error %d; want %d", first, e, next)
		}
		next += 100
	}
	if o.Last() != next-1 {
		t.Errorf("Last: %d; want %d", o.Last(), next-1)
	}
}
