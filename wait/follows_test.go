package wait

import (
	"cmp"
	"math/rand/v2"
	"slices"
	"testing"

	"regatta/api"
)

// plain is a graph told in the plainest way: its edges, in any order. What Graph
// answers is held against it.
type plain struct{ all [][2]uint64 }

// allWays: all ways from a to b in which no number comes twice.
func (p *plain) allWays(a, b uint64, been []uint64) [][]uint64 {
	been = append(slices.Clone(been), a)
	if a == b {
		return [][]uint64{been}
	}
	var out [][]uint64
	for _, e := range p.all {
		if e[0] == a && !slices.Contains(been, e[1]) {
			out = append(out, p.allWays(e[1], b, been)...)
		}
	}
	return out
}

func (p *plain) way(a, b uint64) []uint64 {
	l := p.allWays(a, b, nil)
	if len(l) == 0 {
		return nil
	}
	return slices.MinFunc(l, func(x, y []uint64) int {
		return cmp.Or(cmp.Compare(len(x), len(y)), slices.Compare(x, y))
	})
}

func (p *plain) wait(a, b uint64) ([]uint64, api.Errno) {
	if w := p.way(b, a); w != nil {
		return w, api.ErrDeadlock
	}
	if !slices.Contains(p.all, [2]uint64{a, b}) {
		p.all = append(p.all, [2]uint64{a, b})
	}
	return nil, api.OK
}

// lose takes the edges away of which f says so; how many.
func (p *plain) lose(f func(e [2]uint64) bool) int {
	before := len(p.all)
	p.all = slices.DeleteFunc(p.all, f)
	return before - len(p.all)
}

func (p *plain) edges() [][2]uint64 {
	return slices.SortedFunc(slices.Values(p.all), func(x, y [2]uint64) int { return slices.Compare(x[:], y[:]) })
}

// some are numbers that lie near and far, whose order is not that of their texts.
func some() []uint64 {
	return []uint64{0, 1, 2, 9, 10, 1 << 32, 1 << 63, 1<<64 - 1}
}

// oneCall does the same to both.
func oneCall(t *testing.T, r *rand.Rand, g *Graph, p *plain) {
	t.Helper()
	n := some()
	a, b := n[r.IntN(len(n))], n[r.IntN(len(n))]
	switch k := r.IntN(20); {
	case k < 16:
		way, e := p.wait(a, b)
		wants(t, g, a, b, way, e)
	case k < 19:
		stops(t, g, a, b, p.lose(func(e [2]uint64) bool { return e == [2]uint64{a, b} }) > 0)
	default:
		done(t, g, a, p.lose(func(e [2]uint64) bool { return e[0] == a || e[1] == a }))
	}
}

// alike: the graph tells what the plain one has.
func alike(t *testing.T, g *Graph, p *plain) {
	t.Helper()
	hasAll(t, g, p.edges())
	for _, a := range some() {
		for _, b := range some() {
			if got, way := g.Way(a, b), p.way(a, b); !slices.Equal(got, way) {
				t.Errorf("Way(%d, %d): %v; want %v", a, b, got, way)
			}
		}
	}
}

func TestAgainstThePlainGraph(t *testing.T) { // P12.1, P12.2
	for run := range 20 {
		r := rand.New(rand.NewPCG(12, uint64(run)))
		g, p := New(), &plain{}
		for step := range 150 {
			oneCall(t, r, g, p)
			alike(t, g, p)
			if t.Failed() {
				t.Fatalf("run %d, step %d: %v", run, step, p.edges())
			}
		}
	}
}

// circled: has the graph of these edges a circle? It has none if, those who wait
// for nobody being taken away again and again, all go.
func circled(all [][2]uint64) bool {
	for len(all) > 0 {
		waiting := map[uint64]bool{}
		for _, e := range all {
			waiting[e[0]] = true
		}
		left := slices.DeleteFunc(slices.Clone(all), func(e [2]uint64) bool { return !waiting[e[1]] })
		if len(left) == len(all) {
			return true
		}
		all = left
	}
	return false
}

func TestNeverACircle(t *testing.T) { // P12.3: and what is refused would close one
	closed, taken := 0, 0
	for run := range 10 {
		r := rand.New(rand.NewPCG(13, uint64(run)))
		g := New()
		many := 5 + r.Uint64N(60)
		for range 500 {
			a, b := r.Uint64N(many), r.Uint64N(many)
			if r.IntN(5) == 0 {
				g.Stop(a, b)
			}
			if r.IntN(50) == 0 {
				g.Done(a)
			}
			before := g.Edges()
			way, e := g.Wait(a, b)
			if e == api.ErrDeadlock {
				closed++
				hasAll(t, g, before)
				closes(t, before, a, b, way)
			} else {
				taken++
			}
			if circled(g.Edges()) {
				t.Fatalf("run %d: a circle behind Wait(%d, %d): %v", run, a, b, g.Edges())
			}
		}
	}
	if closed < 100 || taken < 100 {
		t.Errorf("%d circles, %d others: the calls are chosen badly", closed, taken)
	}
}

// closes: with a waiting for b, these edges and that way from b to a would be a circle.
func closes(t *testing.T, all [][2]uint64, a, b uint64, way []uint64) {
	t.Helper()
	if len(way) == 0 || way[0] != b || way[len(way)-1] != a {
		t.Fatalf("Wait(%d, %d) tells the way %v", a, b, way)
	}
	for i := range way[1:] {
		if !slices.Contains(all, [2]uint64{way[i], way[i+1]}) {
			t.Errorf("Wait(%d, %d) tells the way %v, but %d does not wait for %d", a, b, way, way[i], way[i+1])
		}
	}
	if !circled(append(slices.Clone(all), [2]uint64{a, b})) {
		t.Errorf("Wait(%d, %d) is refused, but closes no circle: %v", a, b, all)
	}
}

// far: how many edges it is from each number to b, where there is a way; told edge by edge from b on.
func far(all [][2]uint64, b uint64) map[uint64]int {
	out := map[uint64]int{b: 0}
	for changed := true; changed; {
		changed = false
		for _, e := range all {
			n, there := out[e[1]]
			if m, was := out[e[0]]; there && (!was || m > n+1) {
				out[e[0]], changed = n+1, true
			}
		}
	}
	return out
}

// leastWay goes at each number to the least one that is nearer to b.
func leastWay(all [][2]uint64, a, b uint64) []uint64 {
	dist := far(all, b)
	if _, there := dist[a]; !there {
		return nil
	}
	out := []uint64{a}
	for at := a; at != b; out = append(out, at) {
		var next []uint64
		for _, e := range all {
			if n, there := dist[e[1]]; e[0] == at && there && n == dist[at]-1 {
				next = append(next, e[1])
			}
		}
		at = slices.Min(next)
	}
	return out
}

func TestWaysOfGreatGraphs(t *testing.T) { // P12.1
	long := 0
	for run := range 12 {
		r := rand.New(rand.NewPCG(14, uint64(run)))
		g := New()
		many, near := 30+r.Uint64N(120), 2+r.Uint64N(12)
		name := r.Perm(int(many))
		for range 5 * many { // those who wait do so for ones that are near, in an order of names that is none
			a := r.Uint64N(many)
			b := min(a+1+r.Uint64N(near), many-1)
			if a != b {
				waits(t, g, uint64(name[a]), uint64(name[b]))
			}
		}
		all := g.Edges()
		for range 60 {
			a, b := r.Uint64N(many), r.Uint64N(many)
			got, way := g.Way(a, b), leastWay(all, a, b)
			if !slices.Equal(got, way) {
				t.Fatalf("run %d: Way(%d, %d): %v; want %v", run, a, b, got, way)
			}
			if len(way) > 6 {
				long++
			}
		}
	}
	if long < 50 {
		t.Errorf("only %d ways are long: the graphs are chosen badly", long)
	}
}

func TestManyWaysOfOneLength(t *testing.T) { // P12.1, R1: more of them than could be gone through
	g := New()
	const layers, wide = 50, 9
	var want []uint64
	for i := range uint64(layers) {
		for a := range uint64(wide) {
			for b := range uint64(wide) {
				waits(t, g, i*wide+a, (i+1)*wide+b)
			}
		}
		want = append(want, i*wide)
	}
	want = append(want, layers*wide+wide-1)
	if got := g.Way(0, layers*wide+wide-1); !slices.Equal(got, want) {
		t.Errorf("Way: %v; want %v", got, want)
	}
	if got := g.Way(layers*wide, 0); got != nil {
		t.Errorf("Way back: %v", got)
	}
	wants(t, g, layers*wide+wide-1, 0, want, api.ErrDeadlock)
}

func TestTheLongestWay(t *testing.T) { // P12.1, P12.2, R1: laid from its end on, so that each Wait looks along all of it
	g := New()
	want := []uint64{4096}
	for i := range uint64(4096) {
		waits(t, g, 4095-i, 4096-i)
		want = append(want, 4095-i)
	}
	slices.Reverse(want)
	if got := g.Way(0, 4096); !slices.Equal(got, want) {
		t.Errorf("Way: %d numbers; want %d", len(got), len(want))
	}
	wants(t, g, 4096, 0, want, api.ErrDeadlock)
	wants(t, g, 5000, 0, nil, api.ErrFull)
	done(t, g, 2000, 2)
	goes(t, g, 0, 4096, "")
	goes(t, g, 0, 3, "0 1 2 3")
}

func TestToldIsNewMemory(t *testing.T) { // R3
	g := made(t, "1>2 2>3 1>4 4>3 3>5")
	for range 2 {
		l := g.Edges()
		for i := range l[:cap(l)] {
			l[:cap(l)][i] = [2]uint64{77, 78}
		}
		spoil(g.Way(1, 5))
		spoil(g.Way(1, 1))
		way, _ := g.Wait(5, 1)
		spoil(way)
		has(t, g, "1>2 1>4 2>3 3>5 4>3")
		goes(t, g, 1, 5, "1 2 3 5")
		refused(t, g, 5, 1, "1 2 3 5")
	}
}

// spoil writes over a way and its spare room.
func spoil(way []uint64) {
	way = way[:cap(way)]
	for i := range way {
		way[i] = 77
	}
}

func TestToldStays(t *testing.T) { // R3: whatever is done behind it
	g := made(t, "1>2 2>3 4>5")
	l, way := g.Edges(), g.Way(1, 3)
	circle, _ := g.Wait(3, 1)
	stops(t, g, 4, 5, true)
	done(t, g, 2, 2)
	waits(t, g, 0, 9)
	waits(t, g, 9, 8)
	if !slices.Equal(l, edges("1>2 2>3 4>5")) || !slices.Equal(way, numbers("1 2 3")) || !slices.Equal(circle, numbers("1 2 3")) {
		t.Errorf("what was told is changed: %v, %v, %v", l, way, circle)
	}
}

func TestGraphsHaveNothingInCommon(t *testing.T) { // R4
	a, b := made(t, "1>2"), New()
	waits(t, b, 2, 1)
	has(t, a, "1>2")
	has(t, b, "2>1")
	done(t, a, 1, 1)
	has(t, b, "2>1")
}
