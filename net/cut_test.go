package net

import (
	"testing"

	"regatta/api"
)

func TestCut(t *testing.T) { // P3.3
	n := made(t, 64)
	want(t, "Cut(1, 2)", n.Cut(1, 2), api.OK)
	cuts(t, n, [2]int{1, 2})
	want(t, "Cut(64, 1)", n.Cut(64, 1), api.OK)
	cuts(t, n, [2]int{1, 2}, [2]int{1, 64})
	want(t, "Cut(1, 2) again", n.Cut(1, 2), api.OK)
	want(t, "Cut(2, 1)", n.Cut(2, 1), api.OK)
	cuts(t, n, [2]int{1, 2}, [2]int{1, 64})
}

func TestJoin(t *testing.T) { // P3.3: once is enough, however often it was cut, from either side
	for _, order := range [][2]int{{1, 2}, {2, 1}} {
		n := made(t, 3)
		want(t, "Join of who is joined", n.Join(1, 2), api.OK)
		cuts(t, n)
		n.Cut(1, 2)
		n.Cut(1, 2)
		n.Cut(2, 1)
		n.Cut(2, 3)
		want(t, "Join", n.Join(order[0], order[1]), api.OK)
		cuts(t, n, [2]int{2, 3})
		want(t, "Join again", n.Join(order[0], order[1]), api.OK)
		cuts(t, n, [2]int{2, 3})
		want(t, "Cut behind Join", n.Cut(order[0], order[1]), api.OK)
		cuts(t, n, [2]int{1, 2}, [2]int{2, 3})
	}
}

func TestHeal(t *testing.T) { // P3.3
	n := made(t, 5, "a")
	n.Heal()
	cuts(t, n)
	for a := 1; a <= 5; a++ {
		for b := 1; b < a; b++ {
			want(t, "Cut", n.Cut(a, b), api.OK)
		}
	}
	n.Heal()
	cuts(t, n)
	pending(t, n, packet(1, 1, 1, "a"))
	want(t, "Cut behind Heal", n.Cut(4, 3), api.OK)
	cuts(t, n, [2]int{3, 4})
}

func TestCutOfNoPair(t *testing.T) { // P3.3, R6
	for _, actors := range []int{1, 3, 64} {
		n := made(t, actors)
		var cut [][2]int
		if actors > 1 {
			n.Cut(1, 2)
			cut = append(cut, [2]int{1, 2})
		}
		wrong := [][2]int{{1, 1}, {actors, actors}}
		for _, x := range strangers(actors) {
			wrong = append(wrong, [2]int{x, 1}, [2]int{1, x}, [2]int{x, actors}, [2]int{x, x})
		}
		for _, w := range wrong {
			want(t, "Cut of no pair", n.Cut(w[0], w[1]), api.ErrArg)
			if n.IsCut(w[0], w[1]) || n.IsCut(w[1], w[0]) {
				t.Errorf("IsCut(%d, %d): true of what is no pair", w[0], w[1])
			}
			want(t, "Join of no pair", n.Join(w[0], w[1]), api.ErrArg)
		}
		cuts(t, n, cut...)
	}
}

func TestDeliverAcrossACut(t *testing.T) { // P3.2, P3.3: both ways, and of these two alone
	n := made(t, 3)
	for from := 1; from <= 3; from++ {
		for to := 1; to <= 3; to++ {
			n.Send(from, to, []byte{byte(from), byte(to)})
		}
	}
	n.Cut(3, 1)
	id := 0
	for from := 1; from <= 3; from++ {
		for to := 1; to <= 3; to++ {
			id++
			p, e := n.Deliver(id)
			if from+to == 4 && from != to {
				wantNone(t, "Deliver of who is cut off", p, e, api.ErrCut)
			} else {
				wantPacket(t, "Deliver", p, e, packet(id, from, to, string([]byte{byte(from), byte(to)})))
			}
		}
	}
	pending(t, n)
	n.Heal()
	p, e := n.Deliver(3)
	wantNone(t, "Deliver of what was lost at a cut", p, e, api.ErrMessage)
}

func TestACutCountsAsItIsNow(t *testing.T) { // P3.2
	ways := map[string]func(n *Net){
		"Join": func(n *Net) { n.Join(2, 1) },
		"Heal": func(n *Net) { n.Heal() },
	}
	for name, mend := range ways {
		n := made(t, 2)
		n.Send(1, 2, []byte("a"))
		n.Cut(1, 2)
		n.Send(2, 1, []byte("b"))
		pending(t, n, packet(1, 1, 2, "a"), packet(2, 2, 1, "b"))
		mend(n)
		p, e := n.Deliver(1)
		wantPacket(t, "Deliver behind "+name, p, e, packet(1, 1, 2, "a"))
		p, e = n.Deliver(2)
		wantPacket(t, "Deliver behind "+name, p, e, packet(2, 2, 1, "b"))
	}
}
