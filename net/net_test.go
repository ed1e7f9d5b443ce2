package net

import (
	"bytes"
	"math"
	"testing"

	"regatta/api"
)

func TestExamples(t *testing.T) { // the rows of the chapter's table, one behind the other
	none, e := New(0)
	want(t, "New(0)", e, api.ErrArg)
	if none != nil {
		t.Errorf("New(0): a net beside the error")
	}
	n := made(t, 3)
	id, e := n.Send(1, 2, []byte{7})
	wantID(t, "Send(1, 2, 07)", id, e, 1, api.OK)
	id, e = n.Send(2, 4, []byte{7})
	wantID(t, "Send(2, 4, 07)", id, e, 0, api.ErrArg)
	id, e = n.Send(3, 3, nil)
	wantID(t, "Send(3, 3, none)", id, e, 2, api.OK)

	id, e = n.Copy(1)
	wantID(t, "Copy(1)", id, e, 3, api.OK)
	want(t, "Cut(1, 2)", n.Cut(1, 2), api.OK)
	p, e := n.Deliver(1)
	wantNone(t, "Deliver(1)", p, e, api.ErrCut)
	p, e = n.Deliver(1)
	wantNone(t, "Deliver(1) again", p, e, api.ErrMessage)
	p, e = n.Deliver(2)
	wantPacket(t, "Deliver(2)", p, e, packet(2, 3, 3, ""))

	n.Heal()
	p, e = n.Deliver(3)
	wantPacket(t, "Deliver(3)", p, e, packet(3, 1, 2, "\x07"))
	pending(t, n)
}

func TestNew(t *testing.T) { // P3.1
	for actors := 1; actors <= 64; actors++ {
		n := made(t, actors)
		pending(t, n)
		cuts(t, n)
	}
	for _, actors := range []int{0, -1, 65, 66, math.MinInt, math.MaxInt, 1 << 32, 1<<32 + 1} {
		n, e := New(actors)
		want(t, "New of a wrong number", e, api.ErrArg)
		if n != nil {
			t.Errorf("New(%d): a net beside the error", actors)
		}
	}
}

func TestSend(t *testing.T) { // P3.1
	n := made(t, 64)
	rows := []api.Packet{
		packet(1, 1, 64, "first"),
		packet(2, 64, 1, ""),
		packet(3, 2, 3, "\x00\xff"),
		packet(4, 2, 3, "\x00\xff"), // the same again is another message
		packet(5, 64, 64, "to itself"),
	}
	for i, p := range rows {
		id, e := n.Send(p.From, p.To, p.Data)
		wantID(t, "Send", id, e, i+1, api.OK)
	}
	pending(t, n, rows...)
	pending(t, n, rows...) // looking at them takes none away
}

func TestSendOfMany(t *testing.T) { // P3.1: no limit is told of one message's data
	n, many := made(t, 2), bytes.Repeat([]byte("0123456789abcdef"), 1<<17)
	id, e := n.Send(1, 2, many)
	wantID(t, "Send of many bytes", id, e, 1, api.OK)
	if p, e := n.Deliver(1); !bytes.Equal(p.Data, many) || e != api.OK {
		t.Errorf("Deliver of many bytes: %d bytes, error %d", len(p.Data), e)
	}
}

func TestSendOfStrangers(t *testing.T) { // P3.1, R6
	for _, actors := range []int{1, 3, 64} {
		n := made(t, actors, "a")
		for _, x := range strangers(actors) {
			for _, pair := range [][2]int{{x, 1}, {1, x}, {x, actors}, {actors, x}, {x, x}} {
				id, e := n.Send(pair[0], pair[1], []byte("b"))
				wantID(t, "Send of a stranger", id, e, 0, api.ErrArg)
			}
		}
		pending(t, n, packet(1, 1, 1, "a"))
		id, e := n.Send(actors, actors, nil)
		wantID(t, "Send behind what was refused", id, e, 2, api.OK)
	}
}

func TestFull(t *testing.T) { // P3.1, P3.2
	n := filled(t)
	for range 3 {
		id, e := n.Send(1, 2, nil)
		wantID(t, "Send of one more than MaxNet", id, e, 0, api.ErrFull)
		id, e = n.Send(1, 3, nil)
		wantID(t, "Send to a stranger", id, e, 0, api.ErrArg)
		id, e = n.Send(0, 2, nil)
		wantID(t, "Send from a stranger", id, e, 0, api.ErrArg)
		id, e = n.Copy(1)
		wantID(t, "Copy of one more than MaxNet", id, e, 0, api.ErrFull)
		id, e = n.Copy(api.MaxNet + 1)
		wantID(t, "Copy of none", id, e, 0, api.ErrMessage)
	}
	if got := len(n.Pending()); got != api.MaxNet {
		t.Errorf("Pending: %d messages; want %d", got, api.MaxNet)
	}
}

func TestRoomComesBack(t *testing.T) { // P3.1, P3.2: by each way in which a message goes
	ways := map[string]func(n *Net) api.Errno{
		"Drop":                    func(n *Net) api.Errno { return n.Drop(9) },
		"Deliver":                 func(n *Net) api.Errno { _, e := n.Deliver(9); return e },
		"Deliver of the last one": func(n *Net) api.Errno { _, e := n.Deliver(api.MaxNet); return e },
	}
	for name, free := range ways {
		n := filled(t)
		want(t, name, free(n), api.OK)
		id, e := n.Send(1, 2, nil)
		wantID(t, "Send behind "+name, id, e, api.MaxNet+1, api.OK)
		id, e = n.Send(1, 2, nil)
		wantID(t, "Send of one too many, behind "+name, id, e, 0, api.ErrFull)
		id, e = n.Copy(1)
		wantID(t, "Copy of one too many, behind "+name, id, e, 0, api.ErrFull)
	}
	n := filled(t)
	want(t, "Drop(1)", n.Drop(1), api.OK)
	id, e := n.Send(1, 2, nil)
	wantID(t, "Send", id, e, api.MaxNet+1, api.OK)
	n.Cut(1, 2)
	p, e := n.Deliver(api.MaxNet + 1)
	wantNone(t, "Deliver to who is cut off", p, e, api.ErrCut)
	id, e = n.Copy(2)
	wantID(t, "Copy behind a Deliver to who is cut off", id, e, api.MaxNet+2, api.OK)
}

func TestFullByCopies(t *testing.T) { // P3.2
	n := made(t, 1, "a")
	for i := range api.MaxNet - 1 {
		id, e := n.Copy(i + 1) // a copy of the copy ahead of it
		wantID(t, "Copy", id, e, i+2, api.OK)
	}
	id, e := n.Copy(1)
	wantID(t, "Copy of one more than MaxNet", id, e, 0, api.ErrFull)
	id, e = n.Send(1, 1, nil)
	wantID(t, "Send of one more than MaxNet", id, e, 0, api.ErrFull)
	for i := range api.MaxNet {
		p, e := n.Deliver(i + 1)
		wantPacket(t, "Deliver", p, e, packet(i+1, 1, 1, "a"))
	}
	pending(t, n)
}

func TestNoNumberComesAgain(t *testing.T) { // P3.1
	n := made(t, 2)
	for i := range 3*api.MaxNet + 1 {
		id, e := n.Send(1, 2, nil)
		wantID(t, "Send", id, e, i+1, api.OK)
		switch i % 3 {
		case 0:
			want(t, "Drop", n.Drop(id), api.OK)
		case 1:
			_, e := n.Deliver(id)
			want(t, "Deliver", e, api.OK)
		default:
			n.Cut(1, 2)
			_, e := n.Deliver(id)
			want(t, "Deliver to who is cut off", e, api.ErrCut)
			n.Heal()
		}
		pending(t, n)
	}
}

func TestDeliver(t *testing.T) { // P3.2: in whatever order
	n := made(t, 1, "a", "b", "c", "d", "e")
	for _, id := range []int{3, 1, 5, 4, 2} {
		p, e := n.Deliver(id)
		wantPacket(t, "Deliver", p, e, packet(id, 1, 1, "abcde"[id-1:id]))
		p, e = n.Deliver(id)
		wantNone(t, "Deliver again", p, e, api.ErrMessage)
		if id == 1 {
			pending(t, n, packet(2, 1, 1, "b"), packet(4, 1, 1, "d"), packet(5, 1, 1, "e"))
		}
	}
	pending(t, n)
}

func TestDrop(t *testing.T) { // P3.2
	n := made(t, 1, "a", "b", "c")
	want(t, "Drop(2)", n.Drop(2), api.OK)
	pending(t, n, packet(1, 1, 1, "a"), packet(3, 1, 1, "c"))
	want(t, "Drop(2) again", n.Drop(2), api.ErrMessage)
	p, e := n.Deliver(2)
	wantNone(t, "Deliver of what is dropped", p, e, api.ErrMessage)
	id, e := n.Copy(2)
	wantID(t, "Copy of what is dropped", id, e, 0, api.ErrMessage)
	want(t, "Drop(3)", n.Drop(3), api.OK)
	want(t, "Drop(1)", n.Drop(1), api.OK)
	pending(t, n)
}

func TestDropOfWhoIsCutOff(t *testing.T) { // P3.2: nothing is said of cuts there
	n := made(t, 2)
	n.Send(1, 2, nil)
	n.Cut(1, 2)
	want(t, "Drop", n.Drop(1), api.OK)
	pending(t, n)
}

func TestCopy(t *testing.T) { // P3.2
	n := made(t, 3)
	n.Send(1, 2, []byte("a"))
	n.Send(2, 3, nil)
	id, e := n.Copy(1)
	wantID(t, "Copy(1)", id, e, 3, api.OK)
	id, e = n.Copy(3)
	wantID(t, "Copy of a copy", id, e, 4, api.OK)
	id, e = n.Copy(2)
	wantID(t, "Copy(2)", id, e, 5, api.OK)
	pending(t, n, packet(1, 1, 2, "a"), packet(2, 2, 3, ""), packet(3, 1, 2, "a"), packet(4, 1, 2, "a"), packet(5, 2, 3, ""))

	want(t, "Drop of the first one", n.Drop(1), api.OK)
	p, e := n.Deliver(3)
	wantPacket(t, "Deliver of its copy", p, e, packet(3, 1, 2, "a"))
	p, e = n.Deliver(4)
	wantPacket(t, "Deliver of the copy's copy", p, e, packet(4, 1, 2, "a"))
	pending(t, n, packet(2, 2, 3, ""), packet(5, 2, 3, ""))
}

func TestCopyOfWhoIsCutOff(t *testing.T) { // P3.2, P3.3: a cut counts when a message is delivered, and then alone
	n := made(t, 2)
	n.Cut(1, 2)
	id, e := n.Send(1, 2, []byte("a"))
	wantID(t, "Send to who is cut off", id, e, 1, api.OK)
	id, e = n.Copy(1)
	wantID(t, "Copy to who is cut off", id, e, 2, api.OK)
	p, e := n.Deliver(1)
	wantNone(t, "Deliver to who is cut off", p, e, api.ErrCut)
	pending(t, n, packet(2, 1, 2, "a"))
	n.Join(1, 2)
	p, e = n.Deliver(2)
	wantPacket(t, "Deliver of the copy", p, e, packet(2, 1, 2, "a"))
}

func TestNoSuchMessage(t *testing.T) { // P3.2, R6
	n := made(t, 2, "a", "b", "c")
	n.Drop(2)
	for _, id := range []int{2, 0, -1, 4, math.MinInt, math.MaxInt, 1 << 32, 1<<32 + 1} {
		p, e := n.Deliver(id)
		wantNone(t, "Deliver of none", p, e, api.ErrMessage)
		want(t, "Drop of none", n.Drop(id), api.ErrMessage)
		got, e := n.Copy(id)
		wantID(t, "Copy of none", got, e, 0, api.ErrMessage)
	}
	pending(t, n, packet(1, 1, 1, "a"), packet(3, 1, 1, "c"))
	id, e := n.Send(1, 2, nil)
	wantID(t, "Send behind what was refused", id, e, 4, api.OK)
}
