package pd

import (
	"fmt"
	"math"
	"testing"

	"regatta/api"
)

func TestExamples(t *testing.T) { // P16.1, P16.2
	p := New(100)
	script(t, p, `
		id 3 -> ok 100
		id 1 -> ok 103
		register 50 2 -> ok
		safe 80 -> ok 49
		clock -> ok 1
		clock -> ok 2
		safe 80 -> ok 49
		clock -> ok 3
		safe 80 -> ok 80
		register 79 1 -> old
		region 1 - - 1/1 -> ok
		region 1 - m 1/2 -> ok
		region 1 - - 1/1 -> stale`)
	wantRegion(t, p, "z", 0)
	script(t, p, "region 7 m - 1/2 -> ok")
	wantRegion(t, p, "z", 7)
	script(t, p, `
		decide 9 back -> arg
		merge 9: 7 m - 1/2 into 1 - m 1/2 -> ok open
		decide 9 commit -> ok commit
		decide 9 back -> ok commit`)
}

func TestNew(t *testing.T) { // P16.1
	for _, next := range []uint64{0, 1, 2, 100, 1 << 62, math.MaxUint64} {
		p := New(next)
		want(t, fmt.Sprintf("New(%d)", next), tells(p), "limit 0 clock 0 safe 0 registered [] stores [] []")
		wantRegion(t, p, "-", 0)
		want(t, "Merge(1)", toldMerge(p.Merge(1)), toldMerge(api.Region{}, api.Region{}, api.MergeNone))
		want(t, "the first number", do(t, p, of("id 1")).N, max(next, 1))
	}
}

func TestKinds(t *testing.T) { // P16.1: ErrArg of any other
	p := busy(t)
	for _, kind := range []int{0, -1, api.PdDecide + 1, 12, 99, math.MaxInt, math.MinInt, 1 << 32, 1<<32 + api.PdClock} {
		c := of("merge 99: 7 m - 1/2 into 1 - m 1/2")
		c.Kind, c.TS, c.TTL, c.Store, c.Commit = kind, 9, 9, 1, true
		want(t, fmt.Sprint("kind ", kind), told(do(t, p, c)), "arg")
	}
}

func TestOnlyItsOwnFieldsCount(t *testing.T) { // P16.1, R2
	for _, s := range []string{
		"id 3", "window 9", "clock", "store 2", "region 3 q t 1/9", "register 400 5", "release 300", "safe 500", "merge 90: 27 m - 1/2 into 21 - m 1/2", "decide 41 commit", "decide 43 back",
		"id 0", "store 0", "region 0 - - 1/1", "register 0 1", "merge 40: 27 m - 1/2 into 21 - m 1/2", "decide 99 commit",
	} {
		plain := of(s)
		full := plain
		for _, f := range []struct {
			set   func()
			kinds []int
		}{
			{func() { full.N = 42 }, []int{api.PdID, api.PdMerge, api.PdDecide}},
			{func() { full.TS = 777 }, []int{api.PdWindow, api.PdRegister, api.PdRelease, api.PdSafe}},
			{func() { full.TTL = 7 }, []int{api.PdRegister}},
			{func() { full.Store = 5 }, []int{api.PdStore}},
			{func() { full.Region = regionOf("5 - - 7/7") }, []int{api.PdRegion, api.PdMerge}},
			{func() { full.Other = regionOf("6 - - 7/7") }, []int{api.PdMerge}},
			{func() { full.Commit = true }, []int{api.PdDecide}},
		} {
			counts := false
			for _, k := range f.kinds {
				counts = counts || k == plain.Kind
			}
			if !counts {
				f.set()
			}
		}
		a, b := busy(t), busy(t)
		want(t, s, told(do(t, a, plain)), told(do(t, b, full)))
		want(t, s, fmt.Sprintf("%x", a.Export()), fmt.Sprintf("%x", b.Export()))
	}
}

func TestNumbers(t *testing.T) { // P16.1: 1 to 1000 of them
	p := New(7)
	script(t, p, `
		id 0 -> arg
		id 1001 -> arg
		id top -> arg
		id 1 -> ok 7
		id 1000 -> ok 8
		id 999 -> ok 1008
		id 1 -> ok 2007
		id 2 -> ok 2008
		id 1 -> ok 2010`)
	want(t, "behind numbers", tells(p), tells(New(0)))
}

func TestTheLastNumbers(t *testing.T) { // P16.4, R5: none is given twice, and none is above 2^64 - 1
	p := New(math.MaxUint64 - 1001)
	script(t, p, `
		id 1000 -> ok 18446744073709550614
		id 3 -> full
		id 1001 -> arg
		id 1 -> ok 18446744073709551614
		id 2 -> full
		id 1 -> ok 18446744073709551615
		id 1 -> full
		id 1000 -> full
		id 0 -> arg`)
	script(t, copyOf(t, p), "id 1 -> full")
	script(t, New(math.MaxUint64), "id 2 -> full\nid 1 -> ok 18446744073709551615\nid 1 -> full")
	script(t, copyOf(t, New(math.MaxUint64)), "id 1 -> ok 18446744073709551615\nid 1 -> full")
}

func TestWindow(t *testing.T) { // P16.1
	p := New(1)
	for _, w := range []struct{ ts, limit uint64 }{{0, 0}, {9, 9}, {3, 9}, {9, 9}, {0, 9}, {10, 10}, {1 << 61, 1 << 61}, {11, 1 << 61}, {math.MaxUint64, math.MaxUint64}, {1, math.MaxUint64}} {
		r := do(t, p, api.PdCmd{Kind: api.PdWindow, TS: w.ts})
		want(t, fmt.Sprint("window ", w.ts), r, api.PdResult{N: w.limit})
		want(t, "Limit", p.Limit(), w.limit)
	}
	want(t, "the others", p.Clock()+p.Safe(), 0)
}

func TestClock(t *testing.T) { // P16.1
	p := New(1)
	for i := range uint64(300) {
		want(t, "Clock", p.Clock(), i)
		want(t, "clock", do(t, p, of("clock")), api.PdResult{N: i + 1})
	}
	want(t, "the others", p.Limit()+p.Safe(), 0)
}

func TestStores(t *testing.T) { // P16.1, P16.2
	p := New(1)
	script(t, p, "store 0 -> arg\nstore -1 -> arg\nstore 6 -> arg\nstore -9223372036854775808 -> arg\nstore 9223372036854775807 -> arg\nstore 4294967297 -> arg")
	wantStores(t, p, 9)
	script(t, p, "store 5 -> ok")
	wantStores(t, p, 0, 5)
	wantStores(t, p, math.MaxUint64, 5)
	script(t, p, "clock -> ok 1\nstore 3 -> ok\nclock -> ok 2\nstore 1 -> ok\nstore 4 -> ok\nclock -> ok 3\nstore 2 -> ok")
	wantStores(t, p, 0, 2)
	wantStores(t, p, 1, 1, 2, 4)
	wantStores(t, p, 2, 1, 2, 3, 4)
	wantStores(t, p, 3, 1, 2, 3, 4, 5)
	wantStores(t, p, 4, 1, 2, 3, 4, 5)
	wantStores(t, p, math.MaxUint64, 1, 2, 3, 4, 5)
	script(t, p, "store 5 -> ok\nstore 6 -> arg")
	wantStores(t, p, 0, 2, 5)
	wantStores(t, p, 2, 1, 2, 3, 4, 5)
	script(t, p, "clock -> ok 4")
	wantStores(t, p, 0)
	wantStores(t, p, 1, 2, 5)
	o := copyOf(t, p)
	wantStores(t, o, 1, 2, 5)
	wantStores(t, o, 2, 1, 2, 4, 5)
}

// busy is a driver that has something of all.
func busy(t *testing.T) *Driver {
	t.Helper()
	p := New(100)
	script(t, p, `
		id 7 -> ok 100
		window 5000 -> ok 5000
		store 2 -> ok
		clock -> ok 1
		store 5 -> ok
		clock -> ok 2
		region 1 - m 1/2 11@1,12@2147483648~ -> ok
		region 7 m q 3/2 71@4 -> ok
		region 9 t - 300/5 91@1,92@2,93@3 -> ok
		safe 40 -> ok 40
		register 300 1 -> ok
		register 50 1000 -> ok
		register 60 1048576 -> ok
		register 41 1 -> ok
		clock -> ok 3
		merge 40: 7 m q 3/2 into 1 - m 1/2 -> ok open
		decide 40 commit -> ok commit
		merge 41: 1 - m 1/2 11@1,12@2~ into 7 m q 3/2 71@1,72@2~ -> ok open
		merge 42: 9 t - 300/5 into 8 q t 1/1 -> ok open
		decide 42 back -> ok back
		merge 43: 8 q t 1/4 into 9 t - 300/5 -> ok open`)
	return p
}
