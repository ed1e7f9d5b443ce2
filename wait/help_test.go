package wait

import (
	"fmt"
	"math"
	"slices"
	"strconv"
	"strings"
	"testing"

	"regatta/api"
)

// number is that of a word; top: the greatest there is.
func number(w string) uint64 {
	if w == "top" {
		return math.MaxUint64
	}
	n, err := strconv.ParseUint(w, 10, 64)
	if err != nil {
		panic(err)
	}
	return n
}

// numbers are those of words.
func numbers(s string) []uint64 {
	var l []uint64
	for _, w := range strings.Fields(s) {
		l = append(l, number(w))
	}
	return l
}

// edges are those of words: 1>2 says that 1 waits for 2.
func edges(s string) [][2]uint64 {
	var l [][2]uint64
	for _, w := range strings.Fields(s) {
		a, b, _ := strings.Cut(w, ">")
		l = append(l, [2]uint64{number(a), number(b)})
	}
	return l
}

// made is a graph with these edges.
func made(t *testing.T, told string) *Graph {
	t.Helper()
	g := New()
	for _, e := range edges(told) {
		waits(t, g, e[0], e[1])
	}
	return g
}

// wants: Wait(a, b) answers this.
func wants(t *testing.T, g *Graph, a, b uint64, way []uint64, e api.Errno) {
	t.Helper()
	if got, err := g.Wait(a, b); !slices.Equal(got, way) || err != e {
		t.Errorf("Wait(%d, %d): %v, error %d; want %v, error %d", a, b, got, err, way, e)
	}
}

// waits: Wait(a, b) is well.
func waits(t *testing.T, g *Graph, a, b uint64) {
	t.Helper()
	wants(t, g, a, b, nil, api.OK)
}

// refused: Wait(a, b) would close the circle that is told, and leaves all as it was.
func refused(t *testing.T, g *Graph, a, b uint64, way string) {
	t.Helper()
	before := g.Edges()
	wants(t, g, a, b, numbers(way), api.ErrDeadlock)
	hasAll(t, g, before)
}

// goes: Way(a, b) is this one.
func goes(t *testing.T, g *Graph, a, b uint64, way string) {
	t.Helper()
	if got := g.Way(a, b); !slices.Equal(got, numbers(way)) {
		t.Errorf("Way(%d, %d): %v; want %q", a, b, got, way)
	}
}

// has: these are the edges, in this order.
func has(t *testing.T, g *Graph, told string) {
	t.Helper()
	hasAll(t, g, edges(told))
}

func hasAll(t *testing.T, g *Graph, all [][2]uint64) {
	t.Helper()
	if got := g.Edges(); !slices.Equal(got, all) {
		t.Errorf("Edges: %s; want %s", short(got), short(all))
	}
}

// short is a list in words, its end left out where it is long.
func short(l [][2]uint64) string {
	if len(l) > 40 {
		return fmt.Sprint(len(l), " edges, ", l[:40])
	}
	return fmt.Sprint(l)
}

func stops(t *testing.T, g *Graph, a, b uint64, did bool) {
	t.Helper()
	if got := g.Stop(a, b); got != did {
		t.Errorf("Stop(%d, %d): %t; want %t", a, b, got, did)
	}
}

func done(t *testing.T, g *Graph, a uint64, went int) {
	t.Helper()
	if got := g.Done(a); got != went {
		t.Errorf("Done(%d): %d; want %d", a, got, went)
	}
}

// full is a graph with as many edges as one may have: 1 waits for 1001, 1002 and so on.
func full(t *testing.T) *Graph {
	t.Helper()
	g := New()
	for i := range uint64(4096) {
		waits(t, g, 1, 1001+i)
	}
	return g
}
