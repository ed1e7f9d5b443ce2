package tso

import (
	"math"
	"testing"

	"regatta/api"
)

func TestExamples(t *testing.T) { // P15.1
	o := New(0)
	refused(t, o, 1, api.ErrWindow)
	wanted(t, o, 1, 1025)
	o.Grant(1025)
	given(t, o, 1, 1)
	given(t, o, 1024, 2)
	refused(t, o, 1, api.ErrWindow)
	stands(t, o, 1025, 1025)

	o = New(1025)
	refused(t, o, 1, api.ErrWindow)
	o.Grant(9)
	refused(t, o, 0, api.ErrArg)
	stands(t, o, 1025, 1025)
}

func TestNewHasAnEmptyWindow(t *testing.T) { // P15.1
	for _, limit := range []uint64{0, 1, 7, api.MaxWindow, 1 << 40, 1<<62 - 1 - 3*api.MaxWindow} {
		o := New(limit)
		stands(t, o, limit, limit)
		refused(t, o, 1, api.ErrWindow)
		refused(t, o, api.MaxWindow, api.ErrWindow)
		wanted(t, o, 1, limit+1+api.MaxWindow)
		stands(t, o, limit, limit)
		o.Grant(limit + 1)
		given(t, o, 1, limit+1)
		stands(t, o, limit+1, limit+1)
	}
}

func TestTakeGivesOneBehindTheOther(t *testing.T) { // P15.1
	o := oracle(10, 2*api.MaxWindow)
	given(t, o, 1, 11)
	stands(t, o, 11, 10+2*api.MaxWindow)
	given(t, o, 3, 12)
	stands(t, o, 14, 10+2*api.MaxWindow)
	given(t, o, api.MaxWindow, 15)
	stands(t, o, 14+api.MaxWindow, 10+2*api.MaxWindow)
	given(t, o, 2, 15+api.MaxWindow)
}

func TestTakeRefusesCounts(t *testing.T) { // P15.1: outside 1 to MaxWindow, whatever the window
	for _, o := range []*Oracle{New(5), oracle(5, 1), oracle(5, 10*api.MaxWindow)} {
		for _, n := range []int{0, -1, math.MinInt, api.MaxWindow + 1, math.MaxInt} {
			limit := o.Limit()
			refused(t, o, n, api.ErrArg)
			content(t, o, n)
			stands(t, o, 5, limit)
		}
	}
	given(t, oracle(5, api.MaxWindow), api.MaxWindow, 6)
	refused(t, New(5), api.MaxWindow, api.ErrWindow)
}

func TestTakeAtTheLimit(t *testing.T) { // P15.1: all n numbers must be at most the limit
	for _, n := range []int{1, 2, 100, api.MaxWindow - 1, api.MaxWindow} {
		o := oracle(30, uint64(n)-1)
		refused(t, o, n, api.ErrWindow)
		stands(t, o, 30, 29+uint64(n))
		o.Grant(30 + uint64(n))
		given(t, o, n, 31)
		stands(t, o, 30+uint64(n), 30+uint64(n))
		refused(t, o, 1, api.ErrWindow)
	}
}

func TestTakeOfLessBehindARefusal(t *testing.T) { // P15.1, R6
	o := oracle(0, 5)
	refused(t, o, 6, api.ErrWindow)
	given(t, o, 4, 1)
	refused(t, o, 2, api.ErrWindow)
	given(t, o, 1, 5)
	refused(t, o, 1, api.ErrWindow)
}

func TestWant(t *testing.T) { // P15.1
	o := New(100)
	wanted(t, o, 1, 101+api.MaxWindow)
	wanted(t, o, 7, 107+api.MaxWindow)
	wanted(t, o, api.MaxWindow, 100+2*api.MaxWindow)
	o.Grant(105)
	content(t, o, 1)
	content(t, o, 5)
	wanted(t, o, 6, 106+api.MaxWindow)
	given(t, o, 2, 101)
	content(t, o, 3)
	wanted(t, o, 4, 106+api.MaxWindow)
	given(t, o, 3, 103)
	wanted(t, o, 1, 106+api.MaxWindow)
	stands(t, o, 105, 105)
}

func TestWantTakesNothing(t *testing.T) { // P15.1: who wants has neither given nor been granted
	o := New(3)
	for range 3 {
		wanted(t, o, 2, 5+api.MaxWindow)
	}
	stands(t, o, 3, 3)
	refused(t, o, 2, api.ErrWindow)
	o.Grant(5 + api.MaxWindow)
	given(t, o, 2, 4)
}

func TestTakeGoesWhenTheWantIsGranted(t *testing.T) { // P15.1
	for _, last := range []uint64{0, 1, 1 << 50} {
		for n := 1; n <= api.MaxWindow; n++ {
			o := New(last)
			limit, ok := o.Want(n)
			if !ok {
				t.Fatalf("Want(%d): nothing", n)
			}
			o.Grant(limit)
			content(t, o, n)
			given(t, o, n, last+1)
			given(t, o, api.MaxWindow, last+1+uint64(n))
			refused(t, o, 1, api.ErrWindow)
		}
	}
}

func TestGrantNeverTakesBack(t *testing.T) { // P15.1
	o := New(50)
	o.Grant(49)
	o.Grant(0)
	stands(t, o, 50, 50)
	o.Grant(50)
	refused(t, o, 1, api.ErrWindow)
	o.Grant(60)
	stands(t, o, 50, 60)
	given(t, o, 4, 51)
	o.Grant(52)
	stands(t, o, 54, 60)
	o.Grant(59)
	given(t, o, 6, 55)
	o.Grant(60)
	stands(t, o, 60, 60)
	refused(t, o, 1, api.ErrWindow)
}

func TestNoSumLeavesItsBits(t *testing.T) { // R1, R5: nothing is promised there, but that calls end
	const top = math.MaxUint64
	for _, last := range []uint64{1 << 62, top - 2*api.MaxWindow, top - 1, top} {
		o := New(last)
		if got, ok := o.Want(api.MaxWindow); got < last || !ok {
			t.Errorf("Want of an oracle that stands at %d: %d, %t", last, got, ok)
		}
		o.Grant(top)
		room := top - last
		for range 3 {
			if first, e := o.Take(api.MaxWindow); (e == api.OK) != (room >= api.MaxWindow) || e == api.OK && first <= last {
				t.Errorf("Take at %d, with room for %d: %d, error %d", last, room, first, e)
			}
			room = top - o.Last()
		}
		if o.Last() < last || o.Limit() != top {
			t.Errorf("Last %d, Limit %d; it began at %d", o.Last(), o.Limit(), last)
		}
	}
}
