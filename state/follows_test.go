package state

import (
	"bytes"
	"fmt"
	"math/rand/v2"
	"reflect"
	"slices"
	"strings"
	"testing"

	"regatta/api"
	"regatta/mvcc"
	"regatta/region"
)

const letters = "abcdefgh"

// dice makes commands at random, of few keys and of times that rise slowly, so that they meet.
type dice struct {
	*rand.Rand
	made int
	next uint64 // a number that is not taken yet
}

func newDice(seed uint64) *dice { return &dice{Rand: rand.New(rand.NewPCG(13, seed)), next: 100} }

func (d *dice) ts() uint64 { return 1 + uint64(d.made/12) + d.Uint64N(4) }

func (d *dice) id() uint64 {
	d.next++
	return d.next
}

// some are keys of these letters, rising, at least one.
func (d *dice) some(letters string) [][]byte {
	var l [][]byte
	for _, i := range slices.Sorted(slices.Values(d.Perm(len(letters))[:1+d.IntN(min(3, len(letters)))])) {
		l = append(l, []byte(letters[i:i+1]))
	}
	return l
}

// cmd is a transaction's command with keys of these letters, as often as not of one that has a lock among these.
func (d *dice) cmd(locks []api.Lock, letters string) api.Cmd {
	d.made++
	c := api.Cmd{Kind: []int{1, 1, 1, 2, 2, 3, 4, 5, 6, 7, 8, 8}[d.IntN(12)], Start: d.ts(), Keys: d.some(letters), Primary: d.some(letters)[0]}
	if len(locks) > 0 && d.IntN(2) == 0 {
		c.Start = locks[d.IntN(len(locks))].Start
	}
	c.ForUpdate, c.Commit, c.Force = c.Start+d.Uint64N(4), c.Start+d.Uint64N(5), d.IntN(2) == 0
	if c.Kind == api.CmdPrewrite {
		for i, k := range c.Keys {
			c.Muts = append(c.Muts, api.Mut{Kind: api.KindPut, Key: k, Value: fmt.Append(nil, d.IntN(100)+i)})
		}
		c.Keys, c.Async, c.One = nil, d.IntN(3) == 0, d.IntN(4) == 0
	}
	return c
}

// covered are the letters that are the region's.
func covered(r api.Region) string {
	s := ""
	for _, k := range letters {
		if region.Covers(r, []byte(string(k))) {
			s += string(k)
		}
	}
	return s
}

// world is states that partition the keys, and one store with all of their data, which is never cut.
type world struct {
	*dice
	states []*State
	all    *mvcc.Store
}

func newWorld(t *testing.T, seed uint64) *world {
	t.Helper()
	return &world{newDice(seed), []*State{fresh(t, three)}, mvcc.New()}
}

// work applies a command at the state, at its epoch, and at the one store; both answer the same.
func (w *world) work(t *testing.T, s *State) {
	t.Helper()
	keys := covered(s.Region())
	if keys == "" {
		return
	}
	c := w.cmd(w.all.Locks(nil, nil, 9, 99), keys)
	c.Epoch = s.Region().Epoch
	c.Epoch.Conf += w.Uint64N(2)
	r, _ := apply(t, s, c)
	wantText(t, fmt.Sprintf("%+v", c), told(r), told(w.all.Do(c)))
}

// collect moves floor and GC of all states, if no lock is in the way.
func (w *world) collect(t *testing.T) {
	t.Helper()
	ts := w.ts() / 2
	if len(w.all.Locks(nil, nil, 1, ts)) > 0 {
		return
	}
	for _, kind := range []int{api.CmdFloor, api.CmdGC} {
		c := api.Cmd{Kind: kind, Commit: ts}
		for _, s := range w.states {
			c.Epoch = s.Region().Epoch
			r, _ := apply(t, s, c)
			want(t, "floor and GC", r.Err, api.OK)
		}
		want(t, "floor and GC of all", w.all.Do(c).Err, api.OK)
	}
}

// split splits one of the states at a key, if that can be.
func (w *world) split(t *testing.T) bool {
	t.Helper()
	i := w.IntN(len(w.states))
	s := w.states[i]
	was := s.Region()
	c := api.Cmd{Kind: api.CmdSplit, Epoch: was.Epoch, Keys: w.some(letters)[:1], ID: w.id()}
	for range was.Peers {
		c.Peers = append(c.Peers, api.Peer{ID: w.id()})
	}
	r, right := apply(t, s, c)
	if r.Err != api.OK {
		want(t, "split", r.Err, api.ErrRange)
		return false
	}
	low, high := s.Region(), right.Region()
	if !bytes.Equal(low.Start, was.Start) || !bytes.Equal(low.End, c.Keys[0]) || !bytes.Equal(high.Start, c.Keys[0]) || !bytes.Equal(high.End, was.End) || toldRegion(r.New) != toldRegion(high) {
		t.Errorf("P13.7: %s is split to %s and %s", toldRegion(was), toldRegion(low), toldRegion(high))
	}
	want(t, "Skip", right.Skip(1), api.OK)
	w.states = slices.Insert(w.states, i+1, right)
	return true
}

// merge merges two neighbours, or gives it up.
func (w *world) merge(t *testing.T) bool {
	t.Helper()
	if len(w.states) < 2 {
		return false
	}
	i := w.IntN(len(w.states) - 1)
	target, source, gone := w.states[i], w.states[i+1], i+1
	if w.IntN(2) == 0 {
		target, source, gone = source, target, i
	}
	id := w.id()
	hold := api.Cmd{Kind: api.CmdPrepare, Epoch: target.Region().Epoch, ID: id, Force: true}
	freeze := api.Cmd{Kind: api.CmdPrepare, Epoch: source.Region().Epoch, ID: id}
	r, _ := apply(t, target, hold)
	want(t, "hold", r.Err, api.OK)
	w.work(t, target)
	r, _ = apply(t, source, freeze)
	want(t, "freeze", r.Err, api.OK)
	was := toldImage(source.Image())
	w.meddle(t, source)
	wantText(t, "P13.8: the image of one that is frozen", toldImage(source.Image()), was)
	w.work(t, target)
	if w.IntN(4) == 0 {
		for _, s := range []*State{target, source} {
			r, _ = apply(t, s, api.Cmd{Kind: api.CmdBack, ID: id})
			want(t, "back", r.Err, api.OK)
		}
		return false
	}
	c := api.Cmd{Kind: api.CmdAbsorb, Epoch: target.Region().Epoch, ID: id, Region: source.Region(), Image: source.Image()}
	r, _ = apply(t, target, c)
	want(t, "absorb", r.Err, api.OK)
	if l := target.Swallowed(); !slices.Contains(l, id) || !slices.Contains(l, source.Region().ID) || !slices.IsSorted(l) {
		t.Errorf("swallowed: %v", l)
	}
	is := tells(target)
	r, _ = apply(t, target, c)
	wantText(t, "absorb again", told(r)+tells(target), "ok"+is)
	w.states = slices.Delete(w.states, gone, gone+1)
	return true
}

// meddle asks a frozen state this and that, and tries to change it.
func (w *world) meddle(t *testing.T, s *State) {
	t.Helper()
	for range 3 {
		c := w.cmd(nil, letters)
		if w.IntN(3) == 0 {
			c = api.Cmd{Kind: []int{api.CmdFloor, api.CmdGC, api.CmdSplit, api.CmdPrepare, api.CmdAbsorb, api.CmdPeers, 16, 0}[w.IntN(8)], Commit: w.ts(), ID: s.Frozen(), Keys: w.some(letters)[:1]}
		}
		c.Epoch = s.Region().Epoch
		r, _ := apply(t, s, c)
		wantText(t, "P13.8: of one that is frozen", told(r), "frozen")
		wantText(t, "P13.8: Get", toldGet(s.Get(w.some(letters)[0], w.ts(), c.Epoch)), "frozen")
		wantText(t, "P13.8: Scan", toldPairs(s.Scan(nil, nil, 9, w.ts(), c.Epoch)), "frozen")
		wantText(t, "P13.8: Locks", toldLocks(s.Locks(nil, nil, 9, w.ts(), c.Epoch)), "frozen")
	}
	r, _ := apply(t, s, api.Cmd{Kind: api.CmdBack, ID: s.Frozen() + 1 + w.Uint64N(9)})
	want(t, "P13.8: back by another merge", r.Err, api.ErrMerge)
}

// same: what is read over all states is what is read of the one store.
func (w *world) same(t *testing.T) {
	t.Helper()
	var regions []api.Region
	for _, s := range w.states {
		regions = append(regions, s.Region())
	}
	if !region.Partition(regions) {
		t.Fatalf("P13.7: no partition: %v", regions)
	}
	for ts := w.ts() / 2; ts < 30; ts += 1 + w.Uint64N(6) {
		for _, k := range letters {
			s := w.states[region.Find(regions, []byte(string(k)))]
			wantText(t, fmt.Sprintf("P13.7: Get(%c, %d)", k, ts), toldGet(s.Get([]byte(string(k)), ts, s.Region().Epoch)), toldGet(w.all.Get([]byte(string(k)), ts)))
		}
		from, to := w.some(letters)[0], w.some(letters)[0]
		if w.IntN(2) == 0 {
			from, to = nil, nil
		}
		pairs, r := w.scan(from, to, ts)
		p, r2 := w.all.Scan(from, to, 99, ts)
		wantText(t, fmt.Sprintf("P13.7: Scan(%s, %s, %d)", from, to, ts), toldPairs(pairs, r), toldPairs(p, r2))
		var locks []api.Lock
		for _, s := range w.states {
			l, _ := s.Locks(from, to, 99, ts, s.Region().Epoch)
			locks = append(locks, l...)
		}
		wantText(t, "P13.7: Locks", toldLocks(locks, api.Result{}), toldLocks(w.all.Locks(from, to, 99, ts), api.Result{}))
	}
}

// scan is the states' Scans one behind the other.
func (w *world) scan(from, to []byte, ts uint64) ([]api.Pair, api.Result) {
	var pairs []api.Pair
	for _, s := range w.states {
		l, r := s.Scan(from, to, 99, ts, s.Region().Epoch)
		if r.Err != api.OK {
			return nil, r
		}
		pairs = append(pairs, l...)
	}
	return pairs, api.Result{}
}

func TestSplitsAndMergesChangeNoRead(t *testing.T) { // P13.7, P13.8
	splits, merges, backs := 0, 0, 0
	for seed := range uint64(100) {
		w := newWorld(t, seed)
		for range 60 {
			switch w.IntN(8) {
			case 0:
				if w.split(t) {
					splits++
				}
			case 1:
				if w.merge(t) {
					merges++
				} else {
					backs++
				}
			case 2:
				w.collect(t)
			default:
				w.work(t, w.states[w.IntN(len(w.states))])
			}
			w.same(t)
		}
		if t.Failed() {
			t.Fatalf("seed %d", seed)
		}
	}
	if splits < 200 || merges < 150 || backs < 40 {
		t.Errorf("%d splits, %d merges, %d that came to nothing", splits, merges, backs)
	}
}

// entry is any entry at a state: most of the time one that can do something.
func (d *dice) entry(s *State) api.Cmd {
	r := s.Region()
	c := d.cmd(nil, letters)
	if d.IntN(3) == 0 {
		c = api.Cmd{Kind: []int{api.CmdFloor, api.CmdGC, api.CmdSplit, api.CmdPrepare, api.CmdPrepare, api.CmdBack, api.CmdBack, api.CmdAbsorb, api.CmdAbsorb, api.CmdPeers, 16}[d.IntN(11)], Commit: d.ts() / 2}
		c.ID, c.Keys, c.Force = s.Held()+s.Frozen(), d.some(letters)[:1], d.IntN(3) > 0
	}
	switch c.Kind {
	case api.CmdSplit:
		c.ID = d.id()
		for range r.Peers {
			c.Peers = append(c.Peers, api.Peer{ID: d.id()})
		}
	case api.CmdPrepare:
		c.ID = d.id()
	case api.CmdPeers:
		c.Keys, c.Peers = nil, []api.Peer{{ID: d.id(), Store: d.IntN(5)}}
	case api.CmdFloor, api.CmdGC:
		c.Keys = nil
	case api.CmdAbsorb:
		c.Keys, c.Region = nil, api.Region{ID: d.id(), Start: r.End, Peers: r.Peers}
		if len(r.End) > 0 && d.IntN(2) == 0 {
			c.Image = api.Image{Cells: []api.Cell{cell(string(r.End))}}
		}
	}
	c.Epoch = r.Epoch
	if d.IntN(10) == 0 {
		c.Epoch.Version += d.Uint64N(2)
		c.Epoch.Conf -= d.Uint64N(2)
	}
	return c
}

// conf is a configuration that may come to be of the region and the places, or none.
func (d *dice) conf(s *State) api.Conf {
	var c api.Conf
	for _, p := range append(s.Region().Peers, s.Places()...) {
		switch {
		case d.IntN(8) == 0:
		case p.Learner || d.IntN(5) == 0:
			c.Learners = append(c.Learners, p.ID)
		default:
			c.Voters = append(c.Voters, p.ID)
		}
	}
	return c
}

func TestTheSameEntries(t *testing.T) { // P13.6: whatever else is asked, and however often it is kept and read again
	met := map[string]int{}
	for seed := range uint64(120) {
		d, a, b := newDice(1000+seed), fresh(t, three), fresh(t, three)
		for range 120 {
			index := a.Applied() + 1 + d.Uint64N(3)
			switch d.IntN(10) {
			case 0:
				want(t, "Skip", a.Skip(index), b.Skip(index))
			case 1:
				c := d.conf(a)
				was := tells(a)
				e := a.Conf(index, c)
				want(t, "Conf", e, b.Conf(index, c))
				met["conf "+errName(e)]++
				if e != api.OK && tells(a) != was {
					t.Errorf("Conf is refused, and changes %s to %s", was, tells(a))
				}
			default:
				c := d.entry(a)
				was := tells(a)
				r, x, _ := a.Apply(index, c)
				r2, y, _ := b.Apply(index, c)
				wantText(t, fmt.Sprintf("%+v", c), told(r), told(r2))
				if (x == nil) != (y == nil) || x != nil && !bytes.Equal(x.Export(), y.Export()) {
					t.Errorf("%+v: two right states", c)
				}
				if r.Err != api.OK && tells(a) != was {
					t.Errorf("%+v is refused, and changes %s to %s", c, was, tells(a))
				}
				met[fmt.Sprint(min(c.Kind, 16), " ", errName(r.Err))]++
			}
			d.ask(b)
			if !bytes.Equal(a.Export(), b.Export()) || a.Applied() != index || b.Applied() != index {
				t.Fatalf("seed %d: P13.6: %s and %s", seed, tells(a), tells(b))
			}
			wantSound(t, a)
			if d.IntN(4) == 0 {
				b = copyOf(t, b)
			}
		}
		if t.Failed() {
			t.Fatalf("seed %d", seed)
		}
	}
	for _, s := range []string{"1 ok", "1 range", "1 locked", "1 frozen", "1 epoch", "8 ok", "9 ok", "10 ok", "11 ok", "11 range", "11 merge", "11 epoch", "12 ok", "12 merge", "12 frozen", "13 ok", "13 merge", "14 ok", "14 merge", "14 frozen", "15 ok", "15 arg", "15 merge", "16 arg", "conf ok", "conf arg"} {
		if met[s] < 10 {
			t.Errorf("%s was met %d times", s, met[s])
		}
	}
}

// ask asks the state this and that, and tells it an entry that is too late.
func (d *dice) ask(s *State) {
	e := s.Region().Epoch
	e.Version += d.Uint64N(2)
	s.Get(d.some(letters)[0], d.ts(), e)
	s.Scan(d.some(letters)[0], nil, d.IntN(5), d.ts(), e)
	s.Locks(nil, d.some(letters)[0], d.IntN(5), d.ts(), e)
	s.Apply(s.Applied()-d.Uint64N(2), d.entry(s))
	s.Conf(s.Applied(), d.conf(s))
	s.Skip(d.Uint64N(s.Applied() + 1))
	scribble(s.Region(), s.Image(), s.Swallowed(), s.Places(), s.Export())
}

func TestWildCommands(t *testing.T) { // R1: none panics, and what comes of it is a state
	c := full()
	c.Epoch, c.Region, c.Image = epoch("2/4"), regionOf("11 t z 2/9 30@1 31@2"), busyImage()
	v := deep(reflect.ValueOf(c))
	did := 0
	for _, how := range []string{"skip", "prepare :2/4 #9", "prepare :2/4 #9 +force"} {
		s := home(t)
		script(t, s, how+" -> ok")
		b := s.Export()
		for kind := range 17 {
			v.FieldByName("Kind").SetInt(int64(kind))
			turns(v, func() {
				x, _ := Import(b)
				r, _, _ := x.Apply(s.Applied()+1, v.Interface().(api.Cmd))
				if r.Err == api.OK {
					did++
				}
				wantSound(t, x)
			})
		}
	}
	if did < 100 {
		t.Errorf("%d commands did something", did)
	}
}

func TestTheSameAgain(t *testing.T) { // R4
	run := func() string {
		d, s := newDice(7), fresh(t, three)
		var b strings.Builder
		for range 300 {
			r, _, _ := s.Apply(s.Applied()+1, d.entry(s))
			fmt.Fprintln(&b, told(r), tells(s))
		}
		return b.String()
	}
	first := run()
	for range 5 {
		if run() != first {
			t.Fatalf("the same entries come to something else")
		}
	}
}
