package net

import (
	"bytes"
	"math/rand/v2"
	"slices"
	"strings"
	"testing"

	"regatta/api"
)

// plain is a net told in the plainest way: all messages that ever were, by
// their numbers, those that went without a number, and both ways of each cut.
// What Net answers is held against it.
type plain struct {
	actors int
	ever   []api.Packet
	cut    [][2]int
}

func (p *plain) under() []api.Packet {
	return slices.DeleteFunc(slices.Clone(p.ever), func(m api.Packet) bool { return m.ID == 0 })
}

func (p *plain) is(id int) bool { return id >= 1 && id <= len(p.ever) && p.ever[id-1].ID == id }

func (p *plain) lay(from, to int, data string) (int, api.Errno) {
	if len(p.under()) == api.MaxNet {
		return 0, api.ErrFull
	}
	p.ever = append(p.ever, packet(len(p.ever)+1, from, to, data))
	return len(p.ever), api.OK
}

func (p *plain) send(from, to int, data string) (int, api.Errno) {
	if from < 1 || to < 1 || from > p.actors || to > p.actors {
		return 0, api.ErrArg
	}
	return p.lay(from, to, data)
}

func (p *plain) copy(id int) (int, api.Errno) {
	if !p.is(id) {
		return 0, api.ErrMessage
	}
	m := p.ever[id-1]
	return p.lay(m.From, m.To, string(m.Data))
}

func (p *plain) deliver(id int) (api.Packet, api.Errno) {
	if !p.is(id) {
		return api.Packet{}, api.ErrMessage
	}
	m := p.ever[id-1]
	p.ever[id-1].ID = 0
	if slices.Contains(p.cut, [2]int{m.From, m.To}) {
		return api.Packet{}, api.ErrCut
	}
	return m, api.OK
}

func (p *plain) join(a, b int) api.Errno {
	if a < 1 || b < 1 || a > p.actors || b > p.actors || a == b {
		return api.ErrArg
	}
	p.cut = slices.DeleteFunc(p.cut, func(c [2]int) bool { return c == [2]int{a, b} || c == [2]int{b, a} })
	return api.OK
}

func (p *plain) cutOff(a, b int) api.Errno {
	e := p.join(a, b)
	if e == api.OK {
		p.cut = append(p.cut, [2]int{a, b}, [2]int{b, a})
	}
	return e
}

// alike: the net tells what the plain one has.
func alike(t *testing.T, n *Net, p *plain) {
	t.Helper()
	pending(t, n, p.under()...)
	for a := range p.actors + 2 {
		for b := range p.actors + 2 {
			if got, cut := n.IsCut(a, b), slices.Contains(p.cut, [2]int{a, b}); got != cut {
				t.Errorf("IsCut(%d, %d): %t; want %t", a, b, got, cut)
			}
		}
	}
}

// oneCall does the same to both; sends is how many of ten calls lay a message under way.
func oneCall(t *testing.T, r *rand.Rand, n *Net, p *plain, sends int) {
	t.Helper()
	a, b := r.IntN(p.actors+2), r.IntN(p.actors+2)
	id := len(p.ever) - r.IntN(len(p.ever)+3) + 2
	if all := p.under(); len(all) > 0 && r.IntN(4) > 0 {
		id = all[r.IntN(len(all))].ID
	}
	if r.IntN(10) < sends {
		data := strings.Repeat(string(rune('a'+r.IntN(26))), r.IntN(4))
		got, e := n.Send(a, b, []byte(data))
		id, err := p.send(a, b, data)
		wantID(t, "Send", got, e, id, err)
		return
	}
	switch r.IntN(8) {
	case 0, 1:
		got, e := n.Copy(id)
		id, err := p.copy(id)
		wantID(t, "Copy", got, e, id, err)
	case 2, 3:
		got, e := n.Deliver(id)
		m, err := p.deliver(id)
		if err != api.OK {
			wantNone(t, "Deliver", got, e, err)
		} else {
			wantPacket(t, "Deliver", got, e, m)
		}
	case 4:
		_, err := p.deliver(id)
		if err == api.ErrCut {
			err = api.OK
		}
		want(t, "Drop", n.Drop(id), err)
	case 5:
		want(t, "Cut", n.Cut(a, b), p.cutOff(a, b))
	case 6:
		want(t, "Join", n.Join(a, b), p.join(a, b))
	default:
		if r.IntN(4) == 0 {
			n.Heal()
			p.cut = nil
		}
	}
}

func TestAgainstThePlainNet(t *testing.T) { // P3.1 to P3.4
	full := 0
	for run := range 12 {
		r := rand.New(rand.NewPCG(3, uint64(run)))
		actors := 1 + r.IntN(6)
		n, p := made(t, actors), &plain{actors: actors}
		for step := range 1400 {
			oneCall(t, r, n, p, []int{8, 1}[step/700]) // first it fills, then it empties
			alike(t, n, p)
			if len(p.under()) == api.MaxNet {
				full++
			}
			if t.Failed() {
				t.Fatalf("run %d, step %d", run, step)
			}
		}
	}
	if full == 0 {
		t.Errorf("no run filled the net: the calls are chosen badly")
	}
}

func TestDeliveredAtMostOnce(t *testing.T) { // P3.4: for its Send and each Copy of it
	n := made(t, 2)
	for copies := range 5 {
		first, _ := n.Send(1, 2, []byte("m"))
		for range copies {
			n.Copy(first)
		}
		got := 0
		for range 3 {
			for id := range first + copies + 3 {
				p, e := n.Deliver(id)
				if e == api.OK {
					got++
					wantPacket(t, "Deliver", p, e, packet(id, 1, 2, "m"))
				}
			}
		}
		if got != copies+1 {
			t.Errorf("a Send and %d Copies: delivered %d times; want %d", copies, got, copies+1)
		}
		pending(t, n)
	}
}

func TestToItself(t *testing.T) { // P3.4: whoever is cut off from whom
	n := made(t, 3)
	n.Cut(1, 2)
	n.Cut(1, 3)
	for a := 1; a <= 3; a++ {
		id, e := n.Send(a, a, []byte("x"))
		wantID(t, "Send to itself", id, e, a, api.OK)
		p, e := n.Deliver(id)
		wantPacket(t, "Deliver to itself", p, e, packet(a, a, a, "x"))
	}
}

func TestNetsHaveNothingInCommon(t *testing.T) { // R4
	a, b := made(t, 3), made(t, 2)
	a.Send(1, 3, []byte("a"))
	a.Cut(1, 2)
	pending(t, b)
	cuts(t, b)
	id, e := b.Send(2, 1, []byte("b"))
	wantID(t, "Send in another net", id, e, 1, api.OK)
	b.Heal()
	want(t, "Drop in another net", b.Drop(1), api.OK)
	pending(t, a, packet(1, 1, 3, "a"))
	cuts(t, a, [2]int{1, 2})
}

func TestHandedInIsNotKept(t *testing.T) { // P3.4, R3
	b := []byte("12345678")
	n := made(t, 2)
	n.Send(1, 2, b[:4])
	n.Copy(1)
	n.Send(1, 2, b[4:6])
	n.Send(2, 1, b[:0])
	if string(b) != "12345678" {
		t.Errorf("Send changed what it was handed: %q", b)
	}
	for i := range b {
		b[i] = '!'
	}
	pending(t, n, packet(1, 1, 2, "1234"), packet(2, 1, 2, "1234"), packet(3, 1, 2, "56"), packet(4, 2, 1, ""))
	p, e := n.Deliver(1)
	wantPacket(t, "Deliver", p, e, packet(1, 1, 2, "1234"))
	spoil(p.Data)
	if string(b) != "!!!!!!!!" {
		t.Errorf("what was told is what was handed in: %q", b)
	}
}

// spoil writes over data and their spare room.
func spoil(data []byte) {
	data = data[:cap(data)]
	for i := range data {
		data[i] = '?'
	}
}

func TestToldIsNewMemory(t *testing.T) { // P3.4, R3
	n := made(t, 1, "abcdefghi", "", "b")
	n.Copy(1)
	n.Copy(1)
	all := []api.Packet{packet(1, 1, 1, "abcdefghi"), packet(2, 1, 1, ""), packet(3, 1, 1, "b"), packet(4, 1, 1, "abcdefghi"), packet(5, 1, 1, "abcdefghi")}

	one, two := n.Pending(), n.Pending()
	for i := range one {
		spoil(one[i].Data)
		for j, p := range one[i+1:] {
			if told(p) != told(all[i+1+j]) {
				t.Errorf("two lists of one Pending share memory: %s", told(p))
			}
		}
		one[i] = api.Packet{}
	}
	for i, p := range two {
		if told(p) != told(all[i]) {
			t.Errorf("two Pendings share memory: %s", told(p))
		}
	}
	_ = append(one[:1], api.Packet{}, api.Packet{})
	pending(t, n, all...)

	p, _ := n.Deliver(1)
	spoil(p.Data)
	pending(t, n, all[1:]...)
	q, e := n.Deliver(4)
	wantPacket(t, "Deliver of a copy", q, e, all[3])
	spoil(q.Data)
	pending(t, n, all[1], all[2], all[4])
	if !bytes.Equal(p.Data, []byte("?????????")) {
		t.Errorf("what Deliver told was changed behind it: %q", p.Data)
	}
}

func TestToldStays(t *testing.T) { // P3.4, R3: whatever is done behind it
	n := made(t, 2, "a", "b", "c")
	before := n.Pending()
	p, _ := n.Deliver(2)
	n.Drop(1)
	n.Send(1, 2, []byte("xyz"))
	n.Copy(3)
	for i, m := range before {
		if told(m) != told(packet(i+1, 1, 1, "abc"[i:i+1])) {
			t.Errorf("what Pending told was changed behind it: %s", told(m))
		}
	}
	wantPacket(t, "what Deliver told", p, api.OK, packet(2, 1, 1, "b"))
}
