package pd

import (
	"fmt"
	"testing"

	"regatta/api"
)

func TestRegionIsChecked(t *testing.T) { // P16.1: region.Check's error, ahead of all others
	p := New(1)
	script(t, p, "region 1 - m 1/5 -> ok")
	for _, r := range []struct{ region, answer string }{
		{"0 - - 1/1", "arg"}, {"1 b a 9/9", "range"}, {"1 a a 9/9", "range"}, {"0 b a 9/9", "arg"}, {"2 *65 - 1/1", "arg"}, {"2 - *65 1/1", "arg"}, {"2 *64 - 1/1", "stale"}, {"2 n *64 1/1", "range"},
		{"1 - m 9/9 0@1", "arg"}, {"1 - m 9/9 2@1,1@2", "arg"}, {"1 - m 9/9 1@1,2@1", "arg"}, {"1 - m 9/9 1@0", "arg"}, {"1 - m 9/9 1@1~", "arg"}, {"1 a - 1/1 1@1~", "arg"},
		{"1 - m 9/9 1@1,2@2,3@3,4@4,5@5,6@6,7@7,8@8,9@9,10@10", "arg"}, {"1 - m 0/5 1@1,2@2,3@3,4@4,5@5,6@6,7@7,8@8,9@9", "stale"},
	} {
		want(t, r.region, told(do(t, p, of("region "+r.region))), r.answer)
	}
	c := of("region 1 - m 9/9")
	c.Region.Peers = nil
	want(t, "a region without peers", told(do(t, p, c)), "arg")
	wantRegions(t, p, "1 - m 1/5")
}

func TestRegionOfOneNumber(t *testing.T) { // P16.1: stale, if what is known is Newer
	for _, r := range []struct{ region, answer string }{
		{"1 c p 5/5", "ok"}, {"1 a b 5/5", "ok"}, {"1 - - 5/5", "ok"}, {"1 c p 5/5 9@2", "ok"},
		{"1 c p 4/5", "stale"}, {"1 c p 9/4", "stale"}, {"1 c p 5/4", "stale"}, {"1 x y 9/4", "stale"},
		{"1 x y 6/5", "ok"}, {"1 c p 0/6", "ok"}, {"1 - - 1/6", "ok"}, {"1 p q top/top", "ok"}, {"1 c p 0/0", "stale"},
	} {
		p := New(1)
		script(t, p, "region 1 c p 5/5 -> ok\nregion "+r.region+" -> "+r.answer)
		if r.answer == "ok" {
			wantRegions(t, p, r.region)
		} else {
			wantRegions(t, p, "1 c p 5/5")
		}
	}
}

func TestRegionsAtTheSameKeys(t *testing.T) { // P16.1: stale, if the Version of one that it overlaps is not below its own
	for _, r := range []struct{ region, answer string }{
		{"2 c p 9/5", "stale"}, {"2 c p 9/4", "stale"}, {"2 c p 0/6", "ok"}, {"2 - - 9/5", "stale"}, {"2 - - 0/6", "ok"}, {"2 d e 9/5", "stale"}, {"2 d e 0/6", "ok"},
		{"2 - cc 9/5", "stale"}, {"2 - cc 0/6", "ok"}, {"2 oz q 9/5", "stale"}, {"2 oz q 0/6", "ok"}, {"2 - cc 9/0", "stale"}, {"2 c - top/5", "stale"},
	} {
		p := New(1)
		script(t, p, "region 1 c p 5/5 -> ok\nregion "+r.region+" -> "+r.answer)
		if r.answer == "ok" {
			wantRegions(t, p, r.region)
		} else {
			wantRegions(t, p, "1 c p 5/5")
		}
	}
	p := New(1)
	script(t, p, "region 1 c p 5/5 -> ok\nregion 2 - c 0/0 -> ok\nregion 3 p - 0/0 -> ok") // beside it: no matter how old
	wantRegions(t, p, "2 - c 0/0", "1 c p 5/5", "3 p - 0/0")
}

func TestRegionTakesThePlaceOfSeveral(t *testing.T) { // P16.1
	p := New(1)
	script(t, p, `
		region 1 - b 1/1 -> ok
		region 4 d e 1/4 -> ok
		region 3 c d 1/3 -> ok
		region 2 b c 1/2 -> ok
		region 5 e - 1/1 -> ok
		region 6 bb dd 1/4 -> stale
		region 6 bb d 1/3 -> stale
		region 6 bb d 1/4 -> ok`)
	wantRegions(t, p, "1 - b 1/1", "6 bb d 1/4", "4 d e 1/4", "5 e - 1/1")
	wantRegion(t, p, "b", 0) // it was 2's
	wantRegion(t, p, "bb", 6)
	wantRegion(t, p, "d", 4)
	script(t, p, "region 5 cc - 7/5 -> ok") // over those ahead of it, and its own
	wantRegions(t, p, "1 - b 1/1", "5 cc - 7/5")
	script(t, p, "region 1 - cc 0/1 -> stale\nregion 1 - cc 1/1 -> ok\nregion 1 - d 1/5 -> stale\nregion 1 - d 1/6 -> ok")
	wantRegions(t, p, "1 - d 1/6")
	script(t, p, "region 5 d - 7/5 -> ok\nregion 9 - - 1/6 -> stale\nregion 9 - - 0/7 -> ok")
	wantRegions(t, p, "9 - - 0/7")
	script(t, p, "region 9 x y 0/8 -> ok\nregion 1 - x 0/0 -> ok") // who is known no more is new
	wantRegions(t, p, "1 - x 0/0", "9 x y 0/8")
}

func TestRegionWhoseRangeGoesElsewhere(t *testing.T) { // P16.1: its own keys of before are free, whatever its range is now
	p := New(1)
	script(t, p, "region 1 a f 1/1 -> ok\nregion 2 m p 1/1 -> ok\nregion 1 n z 1/1 -> stale\nregion 1 n z 1/2 -> ok")
	wantRegions(t, p, "1 n z 1/2")
	wantRegion(t, p, "b", 0)
}

// row32 tells region 1 [00, 01), 2 [01, 02), .. of Version 5 to a driver, as many as can be.
func row32(t *testing.T, p *Driver) {
	t.Helper()
	for i := range api.MaxRegions {
		script(t, p, fmt.Sprintf("region %d %02d %02d 1/5 -> ok", i+1, i, i+1))
	}
}

func TestFullOfRegions(t *testing.T) { // P16.1: at most MaxRegions; behind ErrStale
	p := New(1)
	row32(t, p)
	script(t, p, `
		region 99 x y 9/9 -> full
		region 99 x - 9/9 -> full
		region 99 - 00 9/9 -> full
		region 99 00 01 1/5 -> stale
		region 99 3 - 1/5 -> stale
		region 0 x y 1/1 -> arg
		region 99 y x 1/1 -> range
		region 32 31 32 2/5 -> ok
		region 32 x y 2/6 -> ok
		region 99 00 01 1/6 -> ok
		region 98 31 311 1/1 -> full
		region 99 00 02 1/7 -> ok
		region 98 31 311 1/1 -> ok
		region 97 31x 32 1/1 -> full
		region 97 - - 1/7 -> stale
		region 97 - - 1/8 -> ok`)
	wantRegions(t, p, "97 - - 1/8")
}

func TestFullOfRegionsAndRead(t *testing.T) { // P16.1, P16.3
	p := New(1)
	row32(t, p)
	o := copyOf(t, p)
	want(t, "regions", len(o.Regions()), api.MaxRegions)
	script(t, o, "region 99 x y 9/9 -> full\nregion 99 31 y 9/9 -> ok\nregion 98 311 - 9/10 -> ok")
	want(t, "regions of the other", len(p.Regions()), api.MaxRegions)
}

func TestRegionOfAKey(t *testing.T) { // P16.2
	p := New(1)
	wantRegion(t, p, "-", 0)
	script(t, p, "region 1 b d 1/1 -> ok\nregion 2 f *64 1/1 -> ok\nregion 3 x - 1/1 -> ok")
	for _, k := range []struct {
		key string
		id  uint64
	}{{"-", 0}, {"a", 0}, {"azz", 0}, {"b", 1}, {"b-", 1}, {"cz", 1}, {"*65", 0}, {"d", 0}, {"ezz", 0}, {"f", 2}, {"k", 2}, {"*63", 2}, {"*64", 0}, {"w", 0}, {"x", 3}, {"zzz", 3}} {
		wantRegion(t, p, k.key, k.id)
	}
	r, ok := p.Region([]byte("c"))
	want(t, "Region(c)", toldRegion(r), toldRegion(regionOf("1 b d 1/1")))
	want(t, "Region(c)", ok, true)
	script(t, p, "region 4 - b 1/1 -> ok")
	wantRegion(t, p, "-", 4)
}

func TestRegionsRiseByStart(t *testing.T) { // P16.2
	p := New(1)
	script(t, p, "region 5 m n 1/1 -> ok\nregion 4 x - 1/1 -> ok\nregion 3 a b 1/1 -> ok\nregion 2 mm p 1/1 -> stale\nregion 2 n p 1/1 -> ok\nregion 1 - a 1/1 -> ok\nregion 6 aaa b 1/2 -> ok\nregion 7 a aa 1/1 -> ok")
	wantRegions(t, p, "1 - a 1/1", "7 a aa 1/1", "6 aaa b 1/2", "5 m n 1/1", "2 n p 1/1", "4 x - 1/1")
}
