package mvcc

import (
	"fmt"
	"math/rand/v2"
	"slices"
	"strings"
	"testing"

	"regatta/api"
)

const (
	letters = "abcdef"
	times   = 20 // the starts of a random run are up to this and a few
)

// dice makes commands at random, of few keys and of times that rise slowly, so that they meet.
type dice struct {
	*rand.Rand
	made int
}

func newDice(seed uint64) *dice { return &dice{Rand: rand.New(rand.NewPCG(11, seed))} }

// ts is a time of now, or, seldom, one of before.
func (d *dice) ts() uint64 {
	if d.IntN(10) == 0 {
		return 1 + d.Uint64N(d.base())
	}
	return d.base() + d.Uint64N(4)
}

func (d *dice) base() uint64 { return min(1+uint64(d.made/12), times) }

// some are keys of these letters, rising, at least one.
func (d *dice) some(letters string) [][]byte {
	var l [][]byte
	for _, i := range slices.Sorted(slices.Values(d.Perm(len(letters))[:1+d.IntN(min(3, len(letters)))])) {
		l = append(l, []byte(letters[i:i+1]))
	}
	return l
}

func (d *dice) muts(letters string) []api.Mut {
	var l []api.Mut
	for _, k := range d.some(letters) {
		m := api.Mut{Kind: 1 + d.IntN(3), Key: k, Held: d.IntN(6) == 0}
		if m.Kind == api.KindPut {
			m.Value = fmt.Append(nil, d.IntN(100))
		}
		l = append(l, m)
	}
	return l
}

// cmd is a command to the store, with keys of these letters: as often as not of a transaction that has a lock there.
func (d *dice) cmd(s *Store, letters string) api.Cmd {
	d.made++
	c := api.Cmd{Kind: []int{1, 1, 1, 2, 2, 3, 4, 4, 5, 6, 7, 8, 8, 9, 10}[d.IntN(15)], Start: d.ts()}
	if l := s.Locks(nil, nil, 99, 99); len(l) > 0 && d.IntN(2) == 0 {
		c.Start = l[d.IntN(len(l))].Start
	}
	switch c.Kind {
	case api.CmdPrewrite:
		c.Muts = d.muts(letters)
		c.Primary = c.Muts[d.IntN(len(c.Muts))].Key
		c.Async, c.One = d.IntN(3) == 0, d.IntN(4) == 0
		if c.Async {
			c.Secondaries = d.some(letters)
		}
		c.ForUpdate, c.Commit, c.Max = d.Uint64N(2)*(c.Start+d.Uint64N(5)), d.Uint64N(2)*d.ts(), d.Uint64N(2)*(c.Start+d.Uint64N(5))
	case api.CmdPess:
		c.Keys, c.Primary, c.ForUpdate = d.some(letters), d.some(letters)[0], c.Start+d.Uint64N(6)
	case api.CmdCheck:
		c.Primary, c.Force = d.some(letters)[0], d.IntN(2) == 0
	case api.CmdFloor, api.CmdGC:
		c.Commit, c.Start = max(d.ts(), 4)-4+d.Uint64N(3), 0
	case api.CmdCommit:
		c.Keys, c.Commit = d.some(letters)[:1], c.Start+d.Uint64N(5)
	case api.CmdResolve:
		c.Keys = d.some(letters)
		if d.IntN(3) == 0 {
			c.Keys = nil
		}
		c.Commit = d.Uint64N(2) * (c.Start + d.Uint64N(8))
	default:
		c.Keys, c.ForUpdate = d.some(letters), c.Start+d.Uint64N(6)
	}
	return c
}

// wantSame: the store tells what the plain one does.
func wantSame(t *testing.T, d *dice, s *Store, p *plain) {
	t.Helper()
	wantText(t, "Image", image(s), toldImage(p.image()))
	if s.Size() != p.size() {
		t.Errorf("Size: %d; want %d", s.Size(), p.size())
	}
	ts, limit := d.Uint64N(times+10), d.IntN(5)
	k, from, to := d.anyKey(), d.anyKey(), d.anyKey()
	wantText(t, fmt.Sprintf("Get(%s, %d)", k, ts), toldGet(s.Get([]byte(k), ts)), toldGet(p.get(k, ts)))
	l, r := s.Scan([]byte(from), []byte(to), limit, ts)
	l2, r2 := p.scan(from, to, limit, ts)
	wantText(t, fmt.Sprintf("Scan(%s, %s, %d, %d)", from, to, limit, ts), toldPairs(l)+" "+told(r), toldPairs(l2)+" "+told(r2))
	wantText(t, fmt.Sprintf("Locks(%s, %s, %d, %d)", from, to, limit, ts), toldLocks(s.Locks([]byte(from), []byte(to), limit, ts)), toldLocks(p.lockList(from, to, limit, ts)))
}

// anyKey is a letter, nothing, or something between letters.
func (d *dice) anyKey() string {
	i := d.IntN(len(letters))
	return letters[i : i+1][:d.IntN(2)] + []string{"", "", "0"}[d.IntN(3)]
}

func TestRandomCommands(t *testing.T) { // P11.1 to P11.13
	met := map[string]int{}
	for seed := range uint64(200) {
		d, s, p := newDice(seed), New(), newPlain()
		for range 200 {
			c := d.cmd(s, letters)
			got := doWell(t, s, c)
			r, next := p.do(c)
			p = next
			wantText(t, fmt.Sprintf("seed %d: %+v", seed, c), told(got), told(r))
			wantSame(t, d, s, p)
			met[fmt.Sprint(c.Kind, " ", errName(r.Err), " ", r.Status)]++
		}
		if t.Failed() {
			return
		}
	}
	for _, s := range []string{
		"1 ok 0", "1 arg 0", "1 locked 0", "1 conflict 0", "1 committed 0", "1 rolled 0", "1 tooold 0", "1 nolock 0", "2 ok 0", "2 arg 0", "2 early 0", "2 rolled 0", "2 nolock 0",
		"3 ok 0", "3 committed 0", "4 ok 0", "4 locked 0", "4 committed 0", "4 rolled 0", "4 tooold 0", "4 conflict 0", "5 ok 0", "6 ok 0", "6 ok 1", "6 ok 2", "6 ok 3", "6 tooold 0",
		"7 ok 1", "7 ok 2", "7 ok 3", "7 tooold 0", "8 ok 0", "8 arg 0", "8 early 0", "9 ok 0", "10 ok 0", "10 arg 0", "10 locked 0",
	} {
		if met[s] < 20 {
			t.Errorf("%s was met %d times", s, met[s])
		}
	}
}

// decided is what is decided of a transaction at a key.
type decided struct {
	key   string
	start uint64
}

// decisions: at which time each transaction is committed at each key; 0, if it is rolled there.
func decisions(t *testing.T, s *Store) map[decided]uint64 {
	t.Helper()
	l := map[decided]uint64{}
	for _, c := range s.Image().Cells {
		for _, w := range c.Writes {
			d := decided{string(c.Key), w.Start}
			if _, twice := l[d]; twice || c.Locked && c.Lock.Start == w.Start {
				t.Errorf("%v is decided twice, or locked beside it: %s", d, image(s))
			}
			l[d] = w.Commit
			if w.Kind == api.KindRollback {
				l[d] = 0
			}
		}
	}
	return l
}

func TestDecidedStays(t *testing.T) { // P11.14
	for seed := range uint64(300) {
		d, s, was := newDice(1000+seed), New(), map[decided]uint64{}
		for range 150 {
			c := d.cmd(s, letters)
			s.Do(c)
			is := decisions(t, s)
			for x, when := range was {
				now, there := is[x]
				gone := c.Kind == api.CmdGC && max(x.start, when) <= c.Commit // GC takes what is at or below it
				if !there && !gone || there && now != when {
					t.Fatalf("seed %d: %v was decided at %d, behind %+v at %d (%t)", seed, x, when, c, now, there)
				}
			}
			was = is
		}
	}
}

// What was read of a time stays so: by reads and plain commits at times that rise, and prewrites with Async or One whose Max is the last time that was read.
func TestReadsStay(t *testing.T) { // P11.14
	type look struct {
		key string
		ts  uint64
	}
	commits := map[string]int{}
	for seed := range uint64(200) {
		d, s, now := newDice(2000+seed), New(), uint64(0)
		answers, open := map[look]string{}, map[uint64]api.Cmd{}
		for range 150 {
			now++
			switch d.IntN(3) {
			case 0:
				k := look{string(d.some(letters)[0]), 1 + d.Uint64N(now)}
				if d.IntN(2) == 0 {
					k.ts = now
				}
				v, found, r := s.Get([]byte(k.key), k.ts)
				if r.Err == api.OK {
					answers[k] = toldGet(v, found, r)
				}
			case 1:
				c := api.Cmd{Kind: api.CmdPrewrite, Start: now, Muts: d.muts(letters), Async: d.IntN(2) == 0, One: d.IntN(3) == 0, Max: now}
				if d.IntN(4) == 0 {
					c.Start -= d.Uint64N(now)
				}
				c.Primary = c.Muts[0].Key
				if r := s.Do(c); r.Err == api.OK {
					c.Commit = r.Commit
					open[c.Start] = c
				}
			case 2:
				decideOne(d, s, now, open, commits)
			}
			for k, is := range answers {
				if got := toldGet(s.Get([]byte(k.key), k.ts)); got != is && !strings.HasPrefix(got, "locked") {
					t.Fatalf("seed %d: Get%v was %s, is %s: %s", seed, k, is, got, image(s))
				}
				if strings.HasPrefix(toldGet(s.Get([]byte(k.key), k.ts)), "locked") && s.Locks([]byte(k.key), nil, 1, now)[0].Async {
					t.Fatalf("seed %d: an async lock came in the way of Get%v: %s", seed, k, image(s))
				}
			}
		}
	}
	if commits["async"] < 200 || commits["plain"] < 200 {
		t.Errorf("too few commits: %v", commits)
	}
}

// decideOne commits or rolls one of the open transactions: async ones at the time that their prewrite answered, others now.
func decideOne(d *dice, s *Store, now uint64, open map[uint64]api.Cmd, commits map[string]int) {
	for _, start := range slices.Sorted(mapKeys(open)) {
		if d.IntN(len(open)) > 0 {
			continue
		}
		c := open[start]
		delete(open, start)
		r := api.Cmd{Kind: api.CmdResolve, Start: start}
		if d.IntN(4) > 0 {
			r.Commit = max(now, start+1)
			if c.Async {
				r.Commit = c.Commit
			}
		}
		had := len(s.Locks(nil, nil, 99, now)) > 0
		if s.Do(r).Err == api.OK && had && r.Commit > 0 {
			commits[map[bool]string{true: "async", false: "plain"}[c.Async]]++
		}
		return
	}
}

func mapKeys[K comparable, V any](m map[K]V) func(func(K) bool) {
	return func(yield func(K) bool) {
		for k := range m {
			if !yield(k) {
				return
			}
		}
	}
}

// reads is all that Get and Scan answer at the times from..to.
func reads(s *Store, from, to uint64) string {
	var b strings.Builder
	for ts := from; ts <= to; ts++ {
		for _, k := range letters {
			fmt.Fprintln(&b, ts, string(k), toldGet(s.Get([]byte(string(k)), ts)))
		}
		l, r := s.Scan(nil, nil, 9, ts)
		fmt.Fprintln(&b, ts, toldPairs(l), told(r))
		l, r = s.Scan([]byte("b"), []byte("e"), 2, ts)
		fmt.Fprintln(&b, ts, toldPairs(l), told(r))
	}
	return b.String()
}

func TestGCChangesNoRead(t *testing.T) { // P11.15
	const last = 2*times + 10
	did, took := 0, 0
	for seed := range uint64(200) {
		d, s := newDice(3000+seed), New()
		for range 60 {
			s.Do(d.cmd(s, letters))
		}
		for range 6 {
			from := 1 + d.Uint64N(times)
			s.Do(api.Cmd{Kind: api.CmdFloor, Commit: from})
			for _, l := range s.Locks(nil, nil, 1+d.IntN(9), from) {
				s.Do(api.Cmd{Kind: api.CmdResolve, Start: l.Start})
			}
			locks, was, size := toldLocks(s.Locks(nil, nil, 99, last)), reads(s, from, last), s.Size()
			r := s.Do(api.Cmd{Kind: api.CmdGC, Commit: from})
			wantText(t, "the locks behind GC", toldLocks(s.Locks(nil, nil, 99, last)), locks)
			if reads(s, from, last) != was {
				t.Fatalf("seed %d: GC at %d changes what is read: %s", seed, from, image(s))
			}
			if r.Err != api.OK {
				want(t, "GC", r.Err, api.ErrLocked)
				continue
			}
			did++
			if s.Size() < size {
				took++
			}
			if from > 1 {
				_, _, r = s.Get([]byte("a"), from-1)
				want(t, "Get below it", r.Err, api.ErrTooOld)
			}
		}
	}
	if did < 300 || took < 100 {
		t.Errorf("GC was done %d times, and took something %d times", did, took)
	}
}

func TestCutAndJoinChangeNothing(t *testing.T) { // P11.16
	for seed := range uint64(300) {
		d, s := newDice(4000+seed), New()
		for range 60 {
			c := d.cmd(s, letters)
			i := 1 + d.IntN(len(letters)-1)
			left, side := copyOf(t, s), letters[:i]
			right := left.Cut([]byte(letters[i : i+1]))
			both := copyOf(t, left)
			both.Join(right)
			wantText(t, "Cut and Join", image(both), image(s))
			both = copyOf(t, right)
			both.Join(left)
			wantText(t, "Cut and Join the other way", image(both), image(s))
			target := left
			if d.IntN(2) == 0 {
				side, target = letters[i:], right
			}
			if x := d.cmd(s, side); x.Kind < api.CmdResolve || x.Kind == api.CmdResolve && len(x.Keys) > 0 {
				c = x
				wantText(t, fmt.Sprintf("%+v over a side", c), told(target.Do(c)), told(copyOf(t, s).Do(c)))
				s.Do(c)
				left.Join(right)
				wantText(t, fmt.Sprintf("%+v over a side, joined", c), image(left), image(s))
			} else {
				s.Do(c)
			}
		}
		if t.Failed() {
			return
		}
	}
}

// handmade is an image that may have locks and writes of one transaction at one key.
func (d *dice) handmade() api.Image {
	x := api.Image{Floor: d.Uint64N(9), GC: d.Uint64N(9)}
	for _, k := range d.some(letters) {
		c := api.Cell{Key: k, Locked: d.IntN(2) == 0}
		start := 1 + d.Uint64N(6)
		c.Lock = api.Lock{Kind: 1 + d.IntN(4), Key: k, Primary: d.some(letters)[0], Start: start, ForUpdate: start + d.Uint64N(3), MinCommit: start + 1 + d.Uint64N(3), Async: d.IntN(2) == 0}
		for range d.IntN(5) {
			w := api.Write{Kind: []int{api.KindPut, api.KindDelete, api.KindLock, api.KindRollback}[d.IntN(4)], Start: 1 + d.Uint64N(6)}
			w.Commit = w.Start
			if w.Kind != api.KindRollback {
				w.Commit += d.Uint64N(4)
			}
			c.Writes = append(c.Writes, w)
		}
		slices.SortFunc(c.Writes, orderOf)
		x.Cells = append(x.Cells, c)
	}
	return x
}

// Whatever image a store has begun with: what it tells is an image again, and no call panics.
func TestHandmadeImages(t *testing.T) { // P11.2, R1
	taken := 0
	for seed := range uint64(6000) {
		d := newDice(5000 + seed)
		s, e := Load(d.handmade())
		if e != api.OK {
			continue
		}
		taken++
		for range 12 {
			c := d.cmd(s, letters)
			if c.Start > 0 {
				c.Start = 1 + c.Start%6
			}
			was, r := image(s), s.Do(c)
			if r.Err != api.OK {
				wantText(t, "what a refused command leaves", image(s), was)
			}
			copyOf(t, s)
			s.Join(s.Cut([]byte(d.anyKey())))
		}
	}
	if taken < 2000 {
		t.Errorf("Load took %d images", taken)
	}
}

func TestTheSameAgain(t *testing.T) { // R4
	run := func() string {
		d, s := newDice(7), New()
		var b strings.Builder
		for range 500 {
			fmt.Fprintln(&b, told(s.Do(d.cmd(s, letters))), image(s))
		}
		return b.String()
	}
	first := run()
	for range 5 {
		if run() != first {
			t.Fatalf("the same commands come to something else")
		}
	}
}
