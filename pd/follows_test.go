package pd

import (
	"bytes"
	"fmt"
	"maps"
	"math/rand/v2"
	"reflect"
	"slices"
	"strings"
	"testing"

	"regatta/api"
	"regatta/region"
)

// model is a driver as the chapter tells of it, in the plainest way.
type model struct {
	next               uint64
	limit, clock, safe uint64
	heard              map[int]uint64
	regions            map[uint64]api.Region
	until              map[uint64]uint64
	merges             map[uint64]merge
}

func newModel(next uint64) *model {
	return &model{next: next, heard: map[int]uint64{}, regions: map[uint64]api.Region{}, until: map[uint64]uint64{}, merges: map[uint64]merge{}}
}

func (m *model) do(c api.PdCmd) api.PdResult {
	switch c.Kind {
	case api.PdID:
		if c.N == 0 || c.N > 1000 {
			return refused(api.ErrArg)
		}
		m.next += c.N
		return api.PdResult{N: m.next - c.N}
	case api.PdWindow:
		if c.TS > m.limit {
			m.limit = c.TS
		}
		return api.PdResult{N: m.limit}
	case api.PdClock:
		m.clock++
		maps.DeleteFunc(m.until, func(_, until uint64) bool { return m.clock > until })
		return api.PdResult{N: m.clock}
	case api.PdStore:
		if c.Store < 1 || c.Store > api.MaxStores {
			return refused(api.ErrArg)
		}
		m.heard[c.Store] = m.clock
		return api.PdResult{}
	case api.PdRegion:
		return refused(m.region(c.Region))
	case api.PdRegister:
		return refused(m.register(c.TS, c.TTL))
	case api.PdRelease:
		delete(m.until, c.TS)
		return api.PdResult{}
	case api.PdSafe:
		safe := c.TS
		for ts := range m.until {
			safe = min(safe, ts-1)
		}
		m.safe = max(m.safe, safe)
		return api.PdResult{N: m.safe}
	case api.PdMerge:
		return m.merge(c)
	case api.PdDecide:
		x, ok := m.merges[c.N]
		if !ok {
			return refused(api.ErrArg)
		}
		if x.status == api.MergeOpen && c.Commit {
			x.status = api.MergeCommit
		} else if x.status == api.MergeOpen {
			x.status = api.MergeBack
		}
		m.merges[c.N] = x
		return api.PdResult{Status: x.status}
	}
	return refused(api.ErrArg)
}

// texts are as many as tell ranges apart whose ends are letters, or none.
func texts() []string { return append(strings.Split(letters, ""), "", "zz") }

// overlap looks for a text that lies in both.
func overlap(a, b api.Region) bool {
	in := func(r api.Region, s string) bool {
		return s >= string(r.Start) && (len(r.End) == 0 || s < string(r.End))
	}
	return slices.ContainsFunc(texts(), func(s string) bool { return in(a, s) && in(b, s) })
}

func (m *model) region(r api.Region) api.Errno {
	if e := region.Check(r); e != api.OK {
		return e
	}
	if k, ok := m.regions[r.ID]; ok && (k.Epoch.Version > r.Epoch.Version || k.Epoch.Version == r.Epoch.Version && k.Epoch.Conf > r.Epoch.Conf) {
		return api.ErrStale
	}
	next := maps.Clone(m.regions)
	for id, k := range m.regions {
		if id == r.ID || !overlap(k, r) {
			continue
		}
		if k.Epoch.Version >= r.Epoch.Version {
			return api.ErrStale
		}
		delete(next, id)
	}
	next[r.ID] = r
	if len(next) > api.MaxRegions {
		return api.ErrFull
	}
	m.regions = next
	return api.OK
}

func (m *model) register(ts, ttl uint64) api.Errno {
	if ts == 0 || ttl == 0 || ttl > api.MaxTTL {
		return api.ErrArg
	}
	if ts <= m.safe {
		return api.ErrTooOld
	}
	if _, again := m.until[ts]; !again && len(m.until) == 256 {
		return api.ErrFull
	}
	m.until[ts] = max(m.until[ts], m.clock+ttl)
	return api.OK
}

func (m *model) merge(c api.PdCmd) api.PdResult {
	if _, e := region.Merge(c.Other, c.Region); c.N == 0 || e != api.OK {
		return refused(api.ErrArg)
	}
	open := 0
	_, known := m.merges[c.N]
	for _, x := range m.merges {
		if x.status != api.MergeOpen {
			continue
		}
		open++
		for _, id := range []uint64{c.Region.ID, c.Other.ID} {
			known = known || x.source.ID == id || x.target.ID == id
		}
	}
	if known {
		return refused(api.ErrKnown)
	}
	if open == 64 {
		return refused(api.ErrFull)
	}
	m.merges[c.N] = merge{c.N, c.Region, c.Other, api.MergeOpen}
	return api.PdResult{Status: api.MergeOpen}
}

// same: the driver tells what the model does.
func (m *model) same(t *testing.T, p *Driver) {
	t.Helper()
	if p.Limit() != m.limit || p.Clock() != m.clock || p.Safe() != m.safe {
		t.Errorf("%s; want limit %d, clock %d, safe %d", tells(p), m.limit, m.clock, m.safe)
	}
	wantRegistered(t, p, slices.Sorted(maps.Keys(m.until))...)
	for within := range m.clock + 3 {
		var l []int
		for store := range 7 {
			if at, ok := m.heard[store]; ok && (within > m.clock || at >= m.clock-within) {
				l = append(l, store)
			}
		}
		wantStores(t, p, within, l...)
	}
	byStart := func(a, b api.Region) int { return bytes.Compare(a.Start, b.Start) }
	l := slices.SortedFunc(maps.Values(m.regions), byStart)
	want(t, "Regions", fmt.Sprint(p.Regions()), fmt.Sprint(l))
	for _, s := range texts() {
		i := slices.IndexFunc(l, func(r api.Region) bool {
			return s >= string(r.Start) && (len(r.End) == 0 || s < string(r.End))
		})
		r, ok := p.Region([]byte(s))
		if ok != (i >= 0) || ok && fmt.Sprint(r) != fmt.Sprint(l[i]) {
			t.Errorf("Region(%q): %v, %t", s, r, ok)
		}
	}
	for id := range uint64(40) {
		x := m.merges[id]
		want(t, fmt.Sprintf("Merge(%d)", id), toldMerge(p.Merge(id)), toldMerge(x.source, x.target, x.status))
	}
}

const letters = "abcdefgh"

// dice makes commands at random, of few regions, transactions and merges, so that they meet.
type dice struct{ *rand.Rand }

func newDice(seed uint64) dice { return dice{rand.New(rand.NewPCG(16, seed))} }

func (d dice) end() []byte {
	if d.IntN(6) == 0 {
		return nil
	}
	i := d.IntN(len(letters))
	return []byte(letters[i : i+1])
}

func (d dice) region(version uint64) api.Region {
	r := api.Region{ID: 1 + d.Uint64N(9), Start: d.end(), End: d.end(), Epoch: api.Epoch{Conf: d.Uint64N(3), Version: version + d.Uint64N(3)}, Peers: peers("1@1,2@2~")}
	if len(r.End) > 0 && bytes.Compare(r.Start, r.End) > 0 && d.IntN(20) > 0 {
		r.Start, r.End = r.End, r.Start
	}
	if d.IntN(30) == 0 {
		r.Peers = peers("1@1,2@2")
	}
	return r
}

// cmd is the command of that step: times and versions rise with the steps, slowly.
func (d dice) cmd(step int) api.PdCmd {
	late := uint64(step)
	c := api.PdCmd{Kind: []int{1, 2, 3, 3, 4, 5, 5, 5, 5, 6, 6, 6, 7, 8, 8, 9, 9, 9, 10, 10}[d.IntN(20)]}
	c.N, c.TS, c.TTL, c.Store, c.Commit = d.Uint64N(25), late/3+d.Uint64N(30), d.Uint64N(12), d.IntN(7), d.IntN(2) == 0
	c.Region = d.region(late / 20)
	switch c.Kind {
	case api.PdID:
		c.N = []uint64{0, 1, 2, 999, 1000, 1001}[d.IntN(6)]
	case api.PdRegister:
		c.TS = late/4 + d.Uint64N(30)
	case api.PdSafe:
		c.TS = late/3 + d.Uint64N(14)
	case api.PdMerge:
		c.N = d.Uint64N(35)
		c.Other = d.region(late / 20)
		if len(c.Region.Start) > 0 && d.IntN(10) > 0 {
			c.Other.Start, c.Other.End = nil, c.Region.Start
		}
		if d.IntN(2) == 0 {
			c.Region, c.Other = c.Other, c.Region
		}
	}
	return c
}

func TestFollowsTheModel(t *testing.T) { // P16.1, P16.2, P16.3
	met := map[string]int{}
	for seed := range uint64(100) {
		d := newDice(seed)
		p, m := New(5), newModel(5)
		for step := range 200 {
			c := d.cmd(step)
			r, wanted := do(t, p, c), m.do(c)
			want(t, fmt.Sprintf("Do(%+v)", c), r, wanted)
			met[fmt.Sprint(c.Kind, " ", errName(r.Err))]++
			m.same(t, p)
			wantSound(t, p)
			if d.IntN(10) == 0 {
				p = copyOf(t, p)
			}
			if t.Failed() {
				t.Fatalf("seed %d, step %d", seed, step)
			}
		}
	}
	for _, s := range []string{"1 ok", "1 arg", "2 ok", "3 ok", "4 ok", "4 arg", "5 ok", "5 stale", "5 range", "6 ok", "6 arg", "6 old", "7 ok", "8 ok", "9 ok", "9 arg", "9 known", "10 ok", "10 arg"} {
		if met[s] < 100 {
			t.Errorf("%s was met %d times", s, met[s])
		}
	}
}

func TestManyRegistered(t *testing.T) { // P16.1: the heap, when many come, go, and come again
	for seed := range uint64(10) {
		d := newDice(1000 + seed)
		p, m := New(1), newModel(1)
		full := 0
		for range 3000 {
			c := api.PdCmd{Kind: []int{6, 6, 6, 6, 6, 6, 6, 6, 6, 6, 7, 3}[d.IntN(12)], TS: 1 + d.Uint64N(400), TTL: 1 + d.Uint64N(200)}
			r := p.Do(c)
			want(t, fmt.Sprintf("Do(%+v)", c), r, m.do(c))
			if r.Err == api.ErrFull {
				full++
			}
			wantRegistered(t, p, slices.Sorted(maps.Keys(m.until))...)
			if d.IntN(100) == 0 {
				p = copyOf(t, p)
			}
			if t.Failed() {
				t.Fatalf("seed %d", seed)
			}
		}
		if full < 20 {
			t.Errorf("seed %d: it was full %d times", seed, full)
		}
	}
}

func TestWhatFollows(t *testing.T) { // P16.4
	for seed := range uint64(60) {
		d := newDice(2000 + seed)
		p := New(1 + d.Uint64N(9))
		given := map[uint64]int{}
		decided := map[uint64]string{}
		for step := range 200 {
			limit, clock, safe := p.Limit(), p.Clock(), p.Safe()
			c := d.cmd(step)
			r := p.Do(c)
			if c.Kind == api.PdID && r.Err == api.OK {
				for i := range c.N {
					given[r.N+i]++
				}
			}
			for id := range uint64(40) {
				source, target, status := p.Merge(id)
				text := toldMerge(source, target, status)
				if was, there := decided[id]; there && was != text {
					t.Errorf("merge %d was decided %s, and is %s", id, was, text)
				}
				if status == api.MergeCommit || status == api.MergeBack {
					decided[id] = text
				}
			}
			if p.Limit() < limit || p.Clock() < clock || p.Safe() < safe {
				t.Errorf("%+v: limit, clock or safepoint falls: %s", c, tells(p))
			}
			wantSound(t, p)
			if t.Failed() {
				t.Fatalf("seed %d, step %d", seed, step)
			}
		}
		for n, times := range given {
			if times > 1 {
				t.Errorf("%d was given %d times", n, times)
			}
		}
	}
}

func TestTheSameAgain(t *testing.T) { // P16.4, R4: what is answered hangs on the commands alone, whatever else is asked
	run := func(ask bool) string {
		d, p, o := newDice(7), New(3), New(3)
		var b strings.Builder
		for step := range 400 {
			c := d.cmd(step)
			fmt.Fprintln(&b, told(p.Do(c)), tells(p))
			if ask {
				scribble(all(p, c.N)...)
				p = copyOf(t, p)
				o.Do(of("clock"))
				o.Do(of("region 1 - - 9/9"))
			}
		}
		return b.String() + string(p.Export())
	}
	first := run(false)
	for i := range 4 {
		if run(i%2 == 0) != first {
			t.Fatalf("the same commands come to something else")
		}
	}
}

func TestTwoDriversHaveNothingInCommon(t *testing.T) { // R4
	a, b := busy(t), busy(t)
	was := fmt.Sprintf("%s %x", tells(b), b.Export())
	script(t, a, "id 9 -> ok 107\nwindow 9000 -> ok 9000\nstore 1 -> ok\nstore 5 -> ok\nclock -> ok 4\nregion 3 - - 1/9 -> ok\nregister 70 3 -> ok\nrelease 50 -> ok\nsafe 99 -> ok 59\nmerge 90: 30 a b 1/1 into 31 b c 1/1 -> ok open\ndecide 41 back -> ok back")
	want(t, "the other", fmt.Sprintf("%s %x", tells(b), b.Export()), was)
}

func TestWildCommands(t *testing.T) { // R1: none panics, and what comes of it is a driver
	v := deep(reflect.ValueOf(full()))
	did := 0
	for kind := range api.PdDecide + 2 {
		v.FieldByName("Kind").SetInt(int64(kind))
		turns(v, func() {
			p := busy(t)
			c := v.Interface().(api.PdCmd)
			if do(t, p, c).Err == api.OK {
				did++
			}
			wantSound(t, p)
			copyOf(t, p)
		})
	}
	if did < 100 {
		t.Errorf("%d commands did something", did)
	}
}
