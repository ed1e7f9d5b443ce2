package engine

import (
	"bytes"
	"fmt"
	"maps"
	"math/rand/v2"
	"slices"
	"strings"
	"testing"

	"regatta/api"
	"regatta/disk"
)

// plain is a store told in the plainest way. What Engine answers is held against it.
type plain map[string]string

func (p plain) pairs(from, to string) []api.Pair {
	var out []api.Pair
	for _, key := range slices.Sorted(maps.Keys(p)) {
		if key >= from && (to == "" || key < to) {
			out = append(out, api.Pair{Key: []byte(key), Value: []byte(p[key])})
		}
	}
	return out
}

func (p plain) text() string { return text(p.pairs("", "")) }

// done: the store behind the batch.
func (p plain) done(batch []api.Op) plain {
	out := maps.Clone(p)
	for _, o := range batch {
		switch o.Kind {
		case api.OpPut:
			out[string(o.Key)] = string(o.Value)
		case api.OpDelete:
			delete(out, string(o.Key))
		case api.OpWipe:
			for _, x := range out.pairs(string(o.Key), string(o.End)) {
				delete(out, string(x.Key))
			}
		}
	}
	return out
}

// anyKey has few letters, and those at both ends of a byte: keys often begin alike.
func anyKey(r *rand.Rand, least int) []byte {
	out := make([]byte, least+r.IntN(4-least))
	for i := range out {
		out[i] = []byte{0, 'a', 'b', 0xff}[r.IntN(4)]
	}
	return out
}

func anyBatch(r *rand.Rand) []api.Op {
	var out []api.Op
	for range r.IntN(6) {
		switch r.IntN(8) {
		case 0:
			out = append(out, api.Op{Kind: api.OpWipe, Key: anyKey(r, 0), End: anyKey(r, 0)})
		case 1, 2:
			out = append(out, api.Op{Kind: api.OpDelete, Key: anyKey(r, 1)})
		default:
			out = append(out, api.Op{Kind: api.OpPut, Key: anyKey(r, 1), Value: bytes.Repeat([]byte{byte('0' + r.IntN(10))}, r.IntN(4))})
		}
	}
	return out
}

func anyKeep(r *rand.Rand) []int {
	var out []int
	for range r.IntN(4) {
		out = append(out, r.IntN(40)-2)
	}
	return out
}

// alike: what is told of any range, and of any key, is what the plain store has.
func (p plain) alike(t *testing.T, r *rand.Rand, e *Engine) {
	t.Helper()
	wantText(t, "Scan of all", all(t, e), p.text())
	from, to, limit := string(anyKey(r, 0)), string(anyKey(r, 0)), r.IntN(12)-1
	told := p.pairs(from, to)
	told = told[:min(len(told), max(limit, 0))]
	l, code := e.Scan([]byte(from), []byte(to), limit)
	want(t, "Scan", code, api.OK)
	wantText(t, fmt.Sprintf("Scan(%q, %q, %d)", from, to, limit), text(l), text(told))
	wantText(t, "the same of a Snap", text(e.Snap().Scan([]byte(from), []byte(to), limit)), text(told))
	if value, there := p[from]; there {
		gets(t, e, from, value)
	} else {
		lacks(t, e, from)
	}
}

// reopened: the disk crashes till an Open is not broken off.
func reopened(t *testing.T, r *rand.Rand, d *disk.Disk) *Engine {
	t.Helper()
	for range 4 {
		d.Crash(anyKeep(r))
		d.Arm(r.IntN(12))
		if e, code := Open(d); code != api.ErrDead {
			want(t, "Open", code, api.OK)
			d.Crash(nil) // nothing is armed any more, and nothing is lost by it
			return e
		}
	}
	d.Crash(anyKeep(r))
	return opened(t, d)
}

// oneCall does the same to both. Where the disk refused it, the two stores are what a crash may leave.
func oneCall(r *rand.Rand, e *Engine, p plain) (without, with plain, code api.Errno) {
	switch r.IntN(8) {
	case 0:
		return p, p, e.Flush()
	case 1:
		return p, p, e.Compact()
	}
	batch := anyBatch(r)
	return p, p.done(batch), e.Write(batch)
}

func TestAgainstThePlainStore(t *testing.T) { // P6.2 to P6.6
	for run := range 400 {
		r := rand.New(rand.NewPCG(6, uint64(run)))
		d, p := disk.New(), plain{}
		e := opened(t, d)
		snap, then := e.Snap(), ""
		for step := range 80 {
			if r.IntN(12) == 0 {
				d.Arm(r.IntN(10))
			}
			without, with, code := oneCall(r, e, p)
			p = with
			if code != api.OK {
				isOver(t, e)
				e = reopened(t, r, d)
				if all(t, e) != with.text() {
					p = without
				}
			} else if r.IntN(12) == 0 {
				e = reopened(t, r, d)
			}
			p.alike(t, r, e)
			tidied(t, e)
			wantText(t, "a Snap of before", text(snap.Scan(nil, nil, 1000)), then)
			if r.IntN(6) == 0 {
				snap, then = e.Snap(), p.text()
			}
			if t.Failed() {
				t.Fatalf("run %d, step %d", run, step)
			}
		}
	}
}

func TestTablesAreCounted(t *testing.T) { // P6.4: behind a Flush and a Compact one is there, just if something is
	r := rand.New(rand.NewPCG(6, 1000))
	for range 200 {
		d, p := disk.New(), plain{}
		e := opened(t, d)
		for range 30 {
			batch := anyBatch(r)
			p = p.done(batch)
			want(t, "Write", e.Write(batch), api.OK)
			if r.IntN(3) > 0 {
				continue
			}
			want(t, "Flush", e.Flush(), api.OK)
			if r.IntN(2) > 0 {
				continue
			}
			compact(t, e, min(len(p), 1))
			if r.IntN(2) > 0 {
				e = opened(t, d)
				counts(t, e, min(len(p), 1))
			}
			p.alike(t, r, e)
		}
	}
}

// deeds are calls that fill an engine, flush it, compact it to one table and to none; those with text are batches.
var deeds = []string{"+a=1 +b=1", "+a=2 -b", "flush", "+b=3 +c=3", "*b,c +d=4", "flush", "compact", "-a", "flush", "+a=5 +e=5", "compact", "*,", "flush", "compact", "+f=6 +g=6", "flush"}

func do(e *Engine, deed string) api.Errno {
	switch deed {
	case "flush":
		return e.Flush()
	case "compact":
		return e.Compact()
	}
	return e.Write(ops(deed))
}

func TestDyingAtEachCall(t *testing.T) { // P6.6: the disk dies at any change, keeps any part, and dies once more in the Open behind it
	for left := 0; ; left++ {
		for keep := range 14 {
			for again := range 8 {
				d := disk.New()
				e := opened(t, d)
				d.Arm(left)
				without, with := plain{}, plain{}
				for _, deed := range deeds {
					without = with
					with = without.done(ops(deed))
					if do(e, deed) != api.OK {
						break
					}
					without = with
				}
				if !d.Dead() {
					return
				}
				d.Crash([]int{keep})
				d.Arm(again)
				if _, code := Open(d); code != api.OK {
					want(t, "Open", code, api.ErrDead)
				}
				d.Crash(nil)
				e = opened(t, d)
				tidied(t, e)
				if got := all(t, e); got != without.text() && got != with.text() {
					t.Fatalf("dead at change %d, %d bytes kept, dead at %d again: %q; want %q or %q", left, keep, again, got, without.text(), with.text())
				}
				has(t, opened(t, d), all(t, e))
			}
		}
	}
}

func TestKeptWhenAnswered(t *testing.T) { // P6.2, P6.4: a crash that keeps nothing loose loses nothing that was answered OK
	d, p := disk.New(), plain{}
	e := opened(t, d)
	for _, deed := range deeds {
		p = p.done(ops(deed))
		want(t, deed, do(e, deed), api.OK)
		c, tables := copied(t, d), e.Tables()
		d.Crash(nil)
		if !slices.Equal(c.Names(), d.Names()) || c.Size() != d.Size() {
			t.Errorf("%s: something was not synced", deed)
		}
		again := opened(t, c)
		has(t, again, p.text())
		counts(t, again, tables)
		has(t, e, p.text())
	}
}

func TestTheSameAgain(t *testing.T) { // R4: the same calls leave the same bytes
	one, two := disk.New(), disk.New()
	for _, d := range []*disk.Disk{one, two} {
		r := rand.New(rand.NewPCG(6, 2000))
		e := opened(t, d)
		for step := range 200 {
			e.Write(anyBatch(r))
			if step%20 == 19 {
				e.Flush()
			}
			if step%90 == 89 {
				e.Compact()
			}
		}
	}
	if !slices.Equal(one.Names(), two.Names()) {
		t.Fatalf("files %q and %q", one.Names(), two.Names())
	}
	for _, name := range one.Names() {
		a, _ := one.Read(name)
		b, _ := two.Read(name)
		if !bytes.Equal(a, b) {
			t.Errorf("the file %s: %x and %x", name, a, b)
		}
	}
}

func TestNothingInCommon(t *testing.T) { // P6.7
	d, f := disk.New(), disk.New()
	one, two := opened(t, d), opened(t, f)
	write(t, one, "+a=1 +b=2")
	flush(t, one, 1)
	write(t, two, "+a=3")
	has(t, one, "a=1 b=2")
	has(t, two, "a=3")
	counts(t, two, 0)
	d.Arm(0)
	one.Write(ops("-a"))
	isOver(t, one)
	write(t, two, "-a +c=4")
	flush(t, two, 1)
	has(t, two, "c=4")
	d.Crash(nil)
	has(t, opened(t, d), "a=1 b=2")
}

// spared is a copy of b with room behind it, and with all of that room.
func spared(b []byte) (handed, whole []byte) {
	whole = append(slices.Clone(b), bytes.Repeat([]byte{0xee}, 16)...)
	return whole[:len(b)], whole
}

// turn writes over all memory that b has.
func turn(b []byte) {
	b = b[:cap(b)]
	for i := range b {
		b[i] ^= 0xff
	}
}

func TestHandedIn(t *testing.T) { // P6.7, R3: neither changed nor kept, its spare room neither
	d := disk.New()
	e := opened(t, d)
	batch := make([]api.Op, 0, 8)
	var wholes [][]byte
	hand := func(text string) []byte {
		b, whole := spared([]byte(text))
		wholes = append(wholes, whole)
		return b
	}
	batch = append(batch,
		api.Op{Kind: api.OpPut, Key: hand("a"), Value: hand("1"), End: hand("x")},
		api.Op{Kind: api.OpPut, Key: hand("b"), Value: hand("2")},
		api.Op{Kind: api.OpDelete, Key: hand("b"), Value: hand("y")},
		api.Op{Kind: api.OpPut, Key: hand("c"), Value: hand("3")},
		api.Op{Kind: api.OpWipe, Key: hand("d"), End: hand("e")})
	before := fmt.Sprintf("%v %v", batch[:cap(batch)], wholes)
	want(t, "Write", e.Write(batch), api.OK)
	key, whole := spared([]byte("a"))
	wholes = append(wholes, whole)
	e.Get(key)
	e.Scan(key, key, 9)
	e.Snap().Get(key)
	e.Snap().Scan(key, nil, 9)
	if after := fmt.Sprintf("%v %v", batch[:cap(batch)], wholes[:len(wholes)-1]); after != before {
		t.Errorf("what was handed in: %s; it was %s", after, before)
	}
	if string(whole) != "a"+strings.Repeat("\xee", 16) {
		t.Errorf("a key that was handed in: %q", whole)
	}
	for _, b := range wholes {
		turn(b)
	}
	clear(batch[:cap(batch)])
	has(t, e, "a=1 c=3")
	flush(t, e, 1)
	has(t, opened(t, d), "a=1 c=3")
}

func TestToldIsNewMemory(t *testing.T) { // P6.7, R3
	d := disk.New()
	e := opened(t, d)
	write(t, e, "+a=1 +b=22")
	flush(t, e, 1)
	write(t, e, "+c=333")
	s := e.Snap()
	for range 2 {
		value, _, _ := e.Get([]byte("a"))
		turn(value)
		value, _ = s.Get([]byte("b"))
		turn(value)
		l, _ := e.Scan(nil, nil, 9)
		for _, told := range [][]api.Pair{l, s.Scan(nil, nil, 9)} {
			for i, p := range told { // each one is turned behind a look at it: it has nothing in common with those ahead of it
				wantText(t, "a pair", text([]api.Pair{p}), []string{"a=1", "b=22", "c=333"}[i])
				turn(p.Key)
				turn(p.Value)
			}
			clear(told[:cap(told)])
		}
		has(t, e, "a=1 b=22 c=333")
		wantText(t, "the snapshot", text(s.Scan(nil, nil, 9)), "a=1 b=22 c=333")
	}
	flush(t, e, 2)
	compact(t, e, 1)
	has(t, opened(t, d), "a=1 b=22 c=333")
}

// depth of the tree below a node.
func depth(n *node) int {
	if n == nil {
		return 0
	}
	return 1 + max(depth(n.left), depth(n.right))
}

func TestManyKeys(t *testing.T) { // R1: in whatever order they come, the tree is not much higher than it must be
	const count = 20000
	for what, key := range map[string]func(i int) string{
		"rising":    func(i int) string { return fmt.Sprintf("%08d", i) },
		"falling":   func(i int) string { return fmt.Sprintf("%08d", count-i) },
		"bytes":     func(i int) string { return string([]byte{byte(i >> 8), byte(i)}) },
		"one text":  func(i int) string { return strings.Repeat("k", 200) + string([]byte{byte(i >> 8), byte(i)}) },
		"scattered": func(i int) string { return fmt.Sprint(i * 7919 % 20011) },
	} {
		m := memoryOf(view{})
		for i := range count {
			m.put(api.Op{Key: []byte(key(i))})
		}
		if got := depth(m.now.top); got > 60 {
			t.Errorf("%s: %d keys, %d one above the other", what, count, got)
		}
		if got := len(m.now.scan(nil, nil, count+1)); got != count {
			t.Errorf("%s: %d keys; want %d", what, got, count)
		}
		if got := depth(viewOf(m.alone()).top); got != depth(m.now.top) {
			t.Errorf("%s: %d one above the other, when they come at once", what, got)
		}
	}
}
