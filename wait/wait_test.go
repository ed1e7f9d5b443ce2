package wait

import (
	"fmt"
	"slices"
	"testing"

	"regatta/api"
)

func TestExamples(t *testing.T) { // the chapter's
	g := New()
	waits(t, g, 1, 2)
	waits(t, g, 2, 3)
	refused(t, g, 3, 1, "1 2 3")
	refused(t, g, 4, 4, "4")
	goes(t, g, 1, 3, "1 2 3")
	goes(t, g, 3, 1, "")
	done(t, g, 2, 2)
	has(t, g, "")
}

func TestNobodyWaits(t *testing.T) { // P12.1, P12.2: of a new graph
	g := New()
	has(t, g, "")
	goes(t, g, 1, 2, "")
	goes(t, g, 7, 7, "7")
	stops(t, g, 1, 2, false)
	done(t, g, 1, 0)
	has(t, g, "")
}

func TestEachPairOnce(t *testing.T) { // P12.1
	g := made(t, "1>2 1>2 3>2 1>2")
	has(t, g, "1>2 3>2")
	stops(t, g, 1, 2, true)
	has(t, g, "3>2")
	stops(t, g, 1, 2, false)
	waits(t, g, 1, 2)
	waits(t, g, 1, 2)
	done(t, g, 1, 1)
	has(t, g, "3>2")
}

func TestAnyNumbers(t *testing.T) { // P12.1
	g := made(t, "top>0 0>9223372036854775808 9223372036854775808>4294967296 top>4611686018427387904")
	has(t, g, "0>9223372036854775808 9223372036854775808>4294967296 top>0 top>4611686018427387904")
	goes(t, g, number("top"), 4294967296, "top 0 9223372036854775808 4294967296")
	goes(t, g, 0, 0, "0")
	goes(t, g, number("top"), number("top"), "top")
	goes(t, g, 0, number("top"), "")
	goes(t, g, 4294967296, 0, "")
	refused(t, g, 0, 0, "0")
	refused(t, g, number("top"), number("top"), "top")
	refused(t, g, 4294967296, number("top"), "top 0 9223372036854775808 4294967296")
	stops(t, g, number("top"), 0, true)
	waits(t, g, 0, number("top"))
	goes(t, g, 0, 4611686018427387904, "0 top 4611686018427387904")
	done(t, g, 0, 2)
	done(t, g, number("top"), 1)
	has(t, g, "9223372036854775808>4294967296")
}

func TestWay(t *testing.T) { // P12.1
	rows := []struct {
		what, edges string
		a, b        uint64
		way         string
	}{
		{"an edge", "1>2", 1, 2, "1 2"},
		{"against an edge", "1>2", 2, 1, ""},
		{"to itself", "1>2 2>3", 2, 2, "2"},
		{"of those who are in no edge", "1>2", 8, 9, ""},
		{"to itself, in no edge", "1>2", 9, 9, "9"},
		{"to who is in no edge", "1>2", 1, 9, ""},
		{"from who is in no edge", "1>2", 9, 2, ""},
		{"two parts", "1>2 3>4", 1, 4, ""},
		{"numbers fall", "9>7 7>5 5>1", 9, 1, "9 7 5 1"},
		{"a short one of great numbers, a long one of small ones", "1>2 2>3 3>9 1>8 8>9", 1, 9, "1 8 9"},
		{"the edge itself is the shortest", "1>2 2>9 1>9", 1, 9, "1 9"},
		{"the least of one length", "1>5 5>9 1>3 3>9 1>4 4>9", 1, 9, "1 3 9"},
		{"the least first number leads nowhere", "1>2 2>7 1>3 3>9 1>4 4>9", 1, 9, "1 3 9"},
		{"the least first number is too long a way", "1>2 2>3 3>4 4>9 1>7 7>8 8>9 1>6 6>8", 1, 9, "1 6 8 9"},
		{"first numbers weigh more than last ones", "1>2 2>8 8>9 1>3 3>4 4>9", 1, 9, "1 2 8 9"},
		{"alike up to the middle", "1>2 2>6 2>5 2>7 5>8 6>8 7>8 8>9", 1, 9, "1 2 5 8 9"},
		{"by number, not by text", "1>10 10>99 1>9 9>99 1>11 11>99", 1, 99, "1 9 99"},
		{"it comes apart and together", "1>2 1>3 2>4 3>4 4>5 4>6 5>7 6>7", 1, 7, "1 2 4 5 7"},
		{"two ends of one middle", "1>3 2>3 3>4 3>5", 2, 5, "2 3 5"},
		{"more than half of the numbers", "1>9223372036854775809 9223372036854775809>7 1>2 2>7", 1, 7, "1 2 7"},
	}
	for _, r := range rows {
		t.Run(r.what, func(t *testing.T) {
			g := made(t, r.edges)
			before := g.Edges()
			goes(t, g, r.a, r.b, r.way)
			goes(t, g, r.a, r.b, r.way)
			hasAll(t, g, before)
		})
	}
}

func TestWayHangsNotOnTheOrder(t *testing.T) { // P12.1, R4: in which edges came
	all := edges("1>5 5>9 1>3 3>9 1>4 4>9 9>2 3>7 7>2 5>7 2>8")
	for range all {
		all = append(all[1:], all[0])
		for _, order := range [][][2]uint64{all, reversed(all)} {
			g := New()
			for _, e := range order {
				waits(t, g, e[0], e[1])
			}
			has(t, g, "1>3 1>4 1>5 2>8 3>7 3>9 4>9 5>7 5>9 7>2 9>2")
			goes(t, g, 1, 2, "1 3 7 2")
			goes(t, g, 1, 8, "1 3 7 2 8")
			goes(t, g, 4, 8, "4 9 2 8")
		}
	}
}

func reversed(l [][2]uint64) [][2]uint64 {
	out := slices.Clone(l)
	slices.Reverse(out)
	return out
}

func TestCircles(t *testing.T) { // P12.2, P12.3
	rows := []struct {
		what, edges string
		a, b        uint64
		way         string
	}{
		{"of one", "", 5, 5, "5"},
		{"of one who waits", "5>6", 5, 5, "5"},
		{"of one who is waited for", "5>6", 6, 6, "6"},
		{"of two", "1>2", 2, 1, "1 2"},
		{"of three", "1>2 2>3", 3, 1, "1 2 3"},
		{"in the middle of a way", "1>2 2>3 3>4 4>5", 4, 2, "2 3 4"},
		{"the shortest", "1>2 2>3 3>4 1>4", 4, 1, "1 4"},
		{"the least", "1>3 3>9 1>2 2>9", 9, 1, "1 2 9"},
		{"with other edges about", "1>2 7>1 2>8 2>3 3>9", 3, 1, "1 2 3"},
	}
	for _, r := range rows {
		t.Run(r.what, func(t *testing.T) {
			g := made(t, r.edges)
			refused(t, g, r.a, r.b, r.way)
			refused(t, g, r.a, r.b, r.way)
			goes(t, g, r.b, r.a, r.way)
		})
	}
}

func TestNoCircle(t *testing.T) { // P12.2: what looks like one without the arrows is none
	g := made(t, "1>2 1>3 2>4 3>4 1>4 2>3")
	has(t, g, "1>2 1>3 1>4 2>3 2>4 3>4")
	refused(t, g, 4, 1, "1 4")
	refused(t, g, 3, 1, "1 3")
	refused(t, g, 3, 2, "2 3")
}

func TestWaitBehindStop(t *testing.T) { // P12.2: a circle that is open again is none
	g := made(t, "1>2 2>3 1>3")
	refused(t, g, 3, 1, "1 3")
	stops(t, g, 1, 3, true)
	refused(t, g, 3, 1, "1 2 3")
	stops(t, g, 2, 3, true)
	waits(t, g, 3, 1)
	has(t, g, "1>2 3>1")
	refused(t, g, 2, 3, "3 1 2")
}

func TestStop(t *testing.T) { // P12.2
	g := made(t, "1>2 1>3 2>3 4>2")
	stops(t, g, 2, 1, false)
	stops(t, g, 1, 1, false)
	stops(t, g, 3, 3, false)
	stops(t, g, 1, 4, false)
	stops(t, g, 8, 9, false)
	has(t, g, "1>2 1>3 2>3 4>2")
	stops(t, g, 1, 2, true)
	has(t, g, "1>3 2>3 4>2")
	stops(t, g, 1, 2, false)
	goes(t, g, 1, 2, "")
	goes(t, g, 1, 3, "1 3")
	stops(t, g, 4, 2, true)
	stops(t, g, 1, 3, true)
	stops(t, g, 2, 3, true)
	has(t, g, "")
	stops(t, g, 2, 3, false)
}

func TestDone(t *testing.T) { // P12.2
	rows := []struct {
		a    uint64
		went int
		left string
	}{
		{1, 3, "2>3 2>4 5>2"},
		{2, 4, "1>3 1>4"},
		{3, 2, "1>2 1>4 2>4 5>2"},
		{4, 2, "1>2 1>3 2>3 5>2"},
		{5, 1, "1>2 1>3 1>4 2>3 2>4"},
		{0, 0, "1>2 1>3 1>4 2>3 2>4 5>2"},
		{9, 0, "1>2 1>3 1>4 2>3 2>4 5>2"},
	}
	for _, r := range rows {
		g := made(t, "1>2 1>3 1>4 2>3 2>4 5>2")
		done(t, g, r.a, r.went)
		has(t, g, r.left)
		done(t, g, r.a, 0)
		has(t, g, r.left)
		goes(t, g, r.a, r.a, fmt.Sprint(r.a))
	}
}

func TestWaitBehindDone(t *testing.T) { // P12.2
	g := made(t, "1>2 2>3")
	refused(t, g, 3, 1, "1 2 3")
	done(t, g, 2, 2)
	waits(t, g, 3, 1)
	waits(t, g, 2, 3)
	has(t, g, "2>3 3>1")
	refused(t, g, 1, 2, "2 3 1")
}

func TestEdgesRise(t *testing.T) { // P12.2
	g := made(t, "9>10 1>10 1>9 0>top 2>1 10>7 1>0 top>7 2>9")
	has(t, g, "0>top 1>0 1>9 1>10 2>1 2>9 9>10 10>7 top>7")
}

func TestFull(t *testing.T) { // P12.2
	g := full(t)
	all := g.Edges()
	if len(all) != 4096 {
		t.Errorf("%d edges; want 4096", len(all))
	}
	for _, e := range edges("1>2 2>3 0>1 1>top 1>5097 1001>7") {
		wants(t, g, e[0], e[1], nil, api.ErrFull)
	}
	for _, e := range [][2]uint64{all[0], all[1000], all[4095]} {
		waits(t, g, e[0], e[1])
	}
	hasAll(t, g, all)
	goes(t, g, 1, 5096, "1 5096")
	goes(t, g, 0, 5096, "")
}

func TestFullAndACircle(t *testing.T) { // P12.2, R2: ErrDeadlock comes first
	g := full(t)
	refused(t, g, 1001, 1, "1 1001")
	refused(t, g, 5096, 1, "1 5096")
	refused(t, g, 1, 1, "1")
	refused(t, g, 9999, 9999, "9999")
}

func TestFullNoMore(t *testing.T) { // P12.2
	g := full(t)
	stops(t, g, 1, 2000, true)
	waits(t, g, 2, 3)
	wants(t, g, 1, 2000, nil, api.ErrFull)
	waits(t, g, 2, 3)
	done(t, g, 3, 1)
	waits(t, g, 1, 2000)
	wants(t, g, 2, 3, nil, api.ErrFull)
	done(t, g, 1, 4096)
	has(t, g, "")
	waits(t, g, 2, 3)
	has(t, g, "2>3")
}
