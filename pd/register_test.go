package pd

import (
	"fmt"
	"math"
	"slices"
	"testing"

	"regatta/api"
)

func TestRegister(t *testing.T) { // P16.1: the errors, in their order
	p := New(1)
	script(t, p, `
		safe 20 -> ok 20
		register 0 1 -> arg
		register 0 0 -> arg
		register 21 0 -> arg
		register 21 1048577 -> arg
		register 21 top -> arg
		register 20 0 -> arg
		register 20 1 -> old
		register 1 1048576 -> old
		register 21 1048576 -> ok
		register top 1 -> ok
		register 4611686018427387903 1 -> ok
		register 22 1 -> ok`)
	wantRegistered(t, p, 21, 22, 1<<62-1, math.MaxUint64)
	p = New(1)
	script(t, p, "register 1 1 -> ok")
	wantRegistered(t, p, 1)
}

func TestRegisteredUntil(t *testing.T) { // P16.1: one goes when the clock is above clock + TTL
	p := New(1)
	script(t, p, "register 30 1 -> ok\nregister 10 3 -> ok\nregister 20 1 -> ok\nclock -> ok 1")
	wantRegistered(t, p, 10, 20, 30)
	script(t, p, "register 40 1 -> ok\nclock -> ok 2")
	wantRegistered(t, p, 10, 40)
	script(t, p, "clock -> ok 3")
	wantRegistered(t, p, 10)
	script(t, p, "clock -> ok 4")
	wantRegistered(t, p)
	script(t, p, "register 20 1 -> ok\nclock -> ok 5") // again, when it had gone
	wantRegistered(t, p, 20)
	script(t, p, "clock -> ok 6")
	wantRegistered(t, p)
}

func TestRegisteredAgain(t *testing.T) { // P16.1: until the later one
	for _, r := range []struct{ first, then, goes uint64 }{{2, 5, 7}, {5, 2, 6}, {3, 3, 5}, {4, 3, 5}, {5, 3, 6}, {1, 1, 3}, {1, 9, 11}, {9, 1, 10}} {
		p := New(1)
		script(t, p, fmt.Sprintf("register 9 1 -> ok\nregister 7 %d -> ok\nregister 8 2 -> ok\nclock -> ok 1\nregister 7 %d -> ok", r.first, r.then))
		wantRegistered(t, p, 7, 8, 9)
		for p.Clock() < r.goes {
			if !slices.Contains(p.Registered(), 7) {
				t.Errorf("%+v: gone at %d", r, p.Clock())
			}
			do(t, p, of("clock"))
		}
		wantRegistered(t, p)
	}
}

func TestRegisteredForLong(t *testing.T) { // P16.1: MaxTTL ticks
	p := New(1)
	script(t, p, "register 5 1048576 -> ok")
	for range api.MaxTTL {
		p.Do(api.PdCmd{Kind: api.PdClock})
	}
	wantRegistered(t, p, 5)
	script(t, copyOf(t, p), "safe 9 -> ok 4")
	script(t, p, "clock -> ok 1048577")
	wantRegistered(t, p)
}

func TestFullOfRegistered(t *testing.T) { // P16.1: 256 others
	p := New(1)
	for i := range uint64(maxRegistered) {
		script(t, p, fmt.Sprintf("register %d %d -> ok", 1000-i, 1+i%7))
	}
	script(t, p, `
		register 2000 1 -> full
		register 2000 0 -> arg
		register 1000 9 -> ok
		register 745 1 -> ok
		register 744 1 -> full
		safe 900 -> ok 744
		register 744 1 -> old
		release 900 -> ok
		register 2000 1 -> ok
		register 2001 1 -> full
		register 900 1 -> full`)
	o := copyOf(t, p)
	want(t, "registered", len(o.Registered()), maxRegistered)
	script(t, o, "register 2001 1 -> full\nclock -> ok 1\nregister 2001 1 -> full\nclock -> ok 2\nregister 2001 1 -> ok")
}

func TestRelease(t *testing.T) { // P16.1: whether it was registered or not
	p := New(1)
	script(t, p, "release 0 -> ok\nrelease 5 -> ok\nrelease top -> ok")
	wantRegistered(t, p)
	for ts := uint64(9); ts > 0; ts-- {
		do(t, p, api.PdCmd{Kind: api.PdRegister, TS: ts, TTL: ts%4 + 1})
	}
	script(t, p, "release 5 -> ok\nrelease 5 -> ok\nrelease 10 -> ok\nrelease 0 -> ok")
	wantRegistered(t, p, 1, 2, 3, 4, 6, 7, 8, 9)
	script(t, p, "release 1 -> ok\nrelease 9 -> ok\nclock -> ok 1\nclock -> ok 2\nrelease 4 -> ok")
	wantRegistered(t, p, 2, 3, 6, 7)
	script(t, p, "clock -> ok 3\nclock -> ok 4")
	wantRegistered(t, p, 3, 7)
	script(t, p, "safe 9 -> ok 2\nrelease 3 -> ok\nsafe 9 -> ok 6\nrelease 7 -> ok\nsafe 9 -> ok 9")
}

func TestSafe(t *testing.T) { // P16.1: it never falls, and stays below who is registered
	p := New(1)
	script(t, p, `
		safe 0 -> ok
		safe 10 -> ok 10
		safe 9 -> ok 10
		safe 0 -> ok 10
		register 12 1 -> ok
		register 30 2 -> ok
		safe 11 -> ok 11
		safe 12 -> ok 11
		safe top -> ok 11
		safe 5 -> ok 11
		register 11 1 -> old
		register 12 2 -> ok
		clock -> ok 1
		clock -> ok 2
		safe 99 -> ok 11
		clock -> ok 3
		safe 20 -> ok 20
		register 21 1 -> ok
		safe 99 -> ok 20
		release 21 -> ok
		safe top -> ok 18446744073709551615
		safe 1 -> ok 18446744073709551615
		register top 1 -> old
		register 1 1 -> old`)
	want(t, "Safe", p.Safe(), math.MaxUint64)
	p = New(1)
	script(t, p, "register 1 1 -> ok\nsafe 50 -> ok\nregister top 1 -> ok\nrelease 1 -> ok\nsafe top -> ok 18446744073709551614")
}

func TestSafeOfARelease(t *testing.T) { // P16.1: only PdSafe moves it
	p := New(1)
	script(t, p, "register 8 1 -> ok\nsafe 20 -> ok 7\nrelease 8 -> ok\nclock -> ok 1\nwindow 99 -> ok 99")
	want(t, "Safe", p.Safe(), 7)
	script(t, p, "register 8 1 -> ok")
}
