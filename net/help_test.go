package net

import (
	"math"
	"slices"
	"strconv"
	"testing"

	"regatta/api"
)

func want(t *testing.T, what string, got, e api.Errno) {
	t.Helper()
	if got != e {
		t.Errorf("%s: error %d; want %d", what, got, e)
	}
}

// wantID: a call that answers a number and an error answered these.
func wantID(t *testing.T, what string, got int, e api.Errno, id int, err api.Errno) {
	t.Helper()
	if got != id || e != err {
		t.Errorf("%s: %d, error %d; want %d, error %d", what, got, e, id, err)
	}
}

// told is a message in words: its number, from whom to whom, its data.
func told(p api.Packet) string {
	return strconv.Itoa(p.ID) + ": " + strconv.Itoa(p.From) + " to " + strconv.Itoa(p.To) + ", " + strconv.Quote(string(p.Data))
}

func packet(id, from, to int, data string) api.Packet {
	return api.Packet{ID: id, From: from, To: to, Data: []byte(data)}
}

// wantPacket: what Deliver answered is this message.
func wantPacket(t *testing.T, what string, got api.Packet, e api.Errno, p api.Packet) {
	t.Helper()
	if told(got) != told(p) || e != api.OK {
		t.Errorf("%s: %s, error %d; want %s", what, told(got), e, told(p))
	}
}

// wantNone: what Deliver answered is this error, and nothing beside it.
func wantNone(t *testing.T, what string, got api.Packet, e, err api.Errno) {
	t.Helper()
	if e != err || got.ID != 0 || got.From != 0 || got.To != 0 || got.Data != nil {
		t.Errorf("%s: %s, error %d; want nothing, error %d", what, told(got), e, err)
	}
}

// pending: these messages are under way, in this order, and no others.
func pending(t *testing.T, n *Net, packets ...api.Packet) {
	t.Helper()
	var got, all []string
	for _, p := range n.Pending() {
		got = append(got, told(p))
	}
	for _, p := range packets {
		all = append(all, told(p))
	}
	if !slices.Equal(got, all) {
		t.Errorf("Pending: %q; want %q", got, all)
	}
}

// cuts: of all that could be pairs of a net's actors, these are cut off (both ways), and no others.
func cuts(t *testing.T, n *Net, pairs ...[2]int) {
	t.Helper()
	for a := -1; a <= maxActors+1; a++ {
		for b := -1; b <= maxActors+1; b++ {
			cut := slices.Contains(pairs, [2]int{a, b}) || slices.Contains(pairs, [2]int{b, a})
			if got := n.IsCut(a, b); got != cut {
				t.Errorf("IsCut(%d, %d): %t; want %t", a, b, got, cut)
			}
		}
	}
}

// made is a net of so many actors, with a message from 1 to 1 for each of the data.
func made(t *testing.T, actors int, data ...string) *Net {
	t.Helper()
	n, e := New(actors)
	if n == nil || e != api.OK {
		t.Fatalf("New(%d): error %d", actors, e)
	}
	for i, d := range data {
		id, e := n.Send(1, 1, []byte(d))
		wantID(t, "Send", id, e, i+1, api.OK)
	}
	return n
}

// filled is a net of two actors with MaxNet messages under way.
func filled(t *testing.T) *Net {
	t.Helper()
	return made(t, 2, make([]string, api.MaxNet)...)
}

// strangers are numbers that are no actor's in a net of so many.
func strangers(actors int) []int {
	return []int{0, -1, actors + 1, maxActors + 1, math.MinInt, math.MaxInt, 1 << 32, 1<<32 + 1}
}
