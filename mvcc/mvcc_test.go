package mvcc

import (
	"fmt"
	"strings"
	"testing"

	"regatta/api"
)

func TestExamples(t *testing.T) {
	script(t, New(), `
		prewrite @5 a=1 b=2 -> ok at:6
		get a 4 -> none
		get a 9 -> locked a {put a=1 by:a @5 min:6}
		commit @5 at:8 a b -> ok
		get a 7 -> none
		get a 8 -> =1
		prewrite @6 a=3 -> conflict a at:8
		rollback @6 a -> ok
		prewrite @6 a=3 -> rolled a
		commit @6 at:9 a -> rolled a
		prewrite @10 a~ +async max:20 -> ok at:21
		get a 15 -> =1
		get a 21 -> locked a {delete a by:a @10 min:21 +async}
		check @10 by:a +force -> ok LOCKED {delete a by:a @10 min:21 +async}
		secondaries @10 a z -> ok ROLLED
		image -> 0/0 | a {delete a by:a @10 min:21 +async} put@5:8=1 rolled@6 | b put@5:8=2 | z rolled@10
		resolve @10 -> ok
		floor at:12 -> ok
		gc at:12 -> ok
		get a 11 -> tooold
		get a 12 -> =1
		image -> 12/12 | a put@5:8=1 | b put@5:8=2`)
}

func TestNew(t *testing.T) { // P11.1
	script(t, New(), `
		image -> 0/0
		size -> 0
		get a 0 -> none
		scan - - 9 0 -> ok
		locks - - 9 top ->`)
}

func TestCells(t *testing.T) { // P11.1: writes fall by Commit, of one Commit they rise by Start; a bare cell is not there
	script(t, New(), `
		prewrite @3 b=1 -> ok at:4
		commit @3 at:9 b -> ok
		prewrite @20 b=2 -> ok at:21
		commit @20 at:30 b -> ok
		rollback @9 b -> ok
		rollback @25 b -> ok
		rollback @4 b -> ok
		rollback @30 b -> ok
		rollback @1 b -> ok
		image -> 0/0 | b put@20:30=2 rolled@30 rolled@25 put@3:9=1 rolled@9 rolled@4 rolled@1
		rollback @7 a -> ok
		prewrite @40 c! -> ok at:41
		pess @41 for:41 bb -> ok
		image -> 0/0 | a rolled@7 | b put@20:30=2 rolled@30 rolled@25 put@3:9=1 rolled@9 rolled@4 rolled@1 | bb {pess bb by:bb @41 for:41 min:42} | c {lock c by:c @40 min:41}
		back @41 for:41 bb -> ok
		resolve @40 at:41 c -> ok
		image -> 0/0 | a rolled@7 | b put@20:30=2 rolled@30 rolled@25 put@3:9=1 rolled@9 rolled@4 rolled@1 | c lock@40:41`)
	script(t, New(), `
		pess @5 for:5 a b c -> ok
		back @5 for:5 b -> ok
		image -> 0/0 | a {pess a by:a @5 for:5 min:6} | c {pess c by:a @5 for:5 min:6}
		back @5 for:5 a b c d -> ok
		image -> 0/0`)
	script(t, New(), `
		prewrite @8 a=x -> ok at:9
		prewrite @5 b=y -> ok at:6
		commit @8 at:10 a -> ok
		rollback @10 a -> ok
		rollback @9 a -> ok
		image -> 0/0 | a put@8:10=x rolled@10 rolled@9 | b {put b=y by:b @5 min:6}`)
}

// Keys are in the order of their bytes, the shorter one first.
func TestOrderOfKeys(t *testing.T) { // P11.1
	s := New()
	l := []string{"\x00", "\x00\x00", "\x01", "a", "a\x00", "aa", "b", "\x7f", "\x80", "\xff", "\xff\xff"}
	for _, i := range []int{6, 0, 10, 3, 9, 5, 1, 8, 2, 7, 4} {
		want(t, "Rollback", s.Do(api.Cmd{Kind: api.CmdRollback, Start: 5, Keys: [][]byte{[]byte(l[i])}}).Err, api.OK)
	}
	for i, c := range s.Image().Cells {
		if string(c.Key) != l[i] {
			t.Errorf("the cell %d has the key %q; want %q", i, c.Key, l[i])
		}
	}
	copyOf(t, s)
}

func TestArgs(t *testing.T) { // what is refused of every command
	long, longer := "*64", "*65"
	bad := []string{
		// times
		"prewrite @0 a=1", "commit @0 at:3 a", "rollback @0 a", "pess @0 for:1 a", "back @0 for:1 a", "check @0 by:a", "secondaries @0 a", "resolve @0 a", "resolve @0",
		"prewrite @far a=1", "commit @far at:top a", "rollback @far a", "back @far for:1 a", "check @far by:a", "secondaries @far a", "resolve @far a", "floor @far at:1", "gc @far",
		"prewrite @5 at:far a=1", "commit @5 at:far a", "rollback @5 at:far a", "pess @5 for:5 at:far a", "back @5 at:far a", "check @5 at:far by:a", "secondaries @5 at:far a", "resolve @5 at:far", "floor at:far", "gc at:far",
		"prewrite @5 for:far a=1", "commit @5 at:6 for:far a", "rollback @5 for:far a", "pess @5 for:far a", "back @5 for:far a", "check @5 for:far by:a", "secondaries @5 for:far a", "resolve @5 for:far", "floor for:far", "gc for:far",
		"prewrite @5 max:far a=1", "commit @5 at:6 max:far a", "rollback @5 max:far a", "pess @5 for:5 max:far a", "back @5 max:far a", "check @5 max:far by:a", "secondaries @5 max:far a", "resolve @5 max:far", "floor max:far", "gc max:far",
		"rollback @18446744073709551615 a", "floor at:18446744073709551615",
		// keys
		"commit @5 at:6", "rollback @5", "pess @5 for:5 by:a", "back @5 for:5", "secondaries @5", "prewrite @5 by:a",
		"check @5", "check @5 by:-", "check @5 a", "check @5 by:" + longer,
		"commit @5 at:6 b a", "rollback @5 a a", "pess @5 for:5 b a", "back @5 for:5 a a", "secondaries @5 a c b", "resolve @5 b a", "check @5 by:a b a", "floor at:1 b a", "gc a a",
		"commit @5 at:6 -", "rollback @5 -", "rollback @5 - a", "pess @5 for:5 by:a - a", "back @5 -", "secondaries @5 -", "resolve @5 -", "check @5 by:a -", "floor -", "gc -",
		"commit @5 at:6 " + longer, "rollback @5 a " + longer, "resolve @5 " + longer, "check @5 by:a " + longer, "floor " + longer, "gc " + longer,
		"prewrite @5 b=1 a=1", "prewrite @5 a=1 a~", "prewrite @5 by:a -=1", "prewrite @5 by:a *65=1",
		// of some kinds
		"commit @5 at:5 a", "commit @5 at:4 a", "commit @5 a", "resolve @5 at:5 a", "resolve @5 at:1", "pess @5 for:4 a", "pess @5 a",
		"pess @5 for:5 by:- a", "pess @5 for:5 by:*65 a", "prewrite @5 by:- a=1", "prewrite @5 by:*65 a=1",
		"prewrite @5 with:b a=1", "prewrite @5 +one with:b a=1", "prewrite @5 +async with:b,- a=1", "prewrite @5 +async with:b,*65 a=1", "prewrite @5 a=*257",
		"gc at:1",
	}
	for _, c := range bad {
		script(t, New(), c+" -> arg")
	}
	good := []string{
		"prewrite @top a=1 -> ok at:4611686018427387904", "prewrite @5 at:top a=1 -> ok at:4611686018427387903", "prewrite @5 for:top a=1 -> ok at:4611686018427387904",
		"prewrite @5 max:top a=1 -> ok at:6", "prewrite @5 max:top +async a=1 -> ok at:4611686018427387904", "prewrite @5 max:top +one a=1 -> ok at:4611686018427387904",
		"rollback @top a -> ok", "rollback @5 " + long + " -> ok", "resolve @5 -> ok", "resolve @5 a b -> ok", "check @5 by:" + long + " -> ok", "check @5 by:b c d -> ok",
		"floor @0 at:top -> ok", "gc @0 at:0 -> ok", "floor @7 at:1 a b -> ok", "floor -> ok", "pess @5 for:top by:*64 a -> ok", "back @5 a -> ok", "secondaries @1 a -> ok ROLLED",
		"prewrite @5 by:*64 *64=*256 -> ok at:6", "prewrite @5 +async with:b,a,*64 by:z a=1 -> ok at:6", "prewrite @5 +async with:a,a a= -> ok at:6",
	}
	for _, c := range good {
		script(t, New(), c)
	}
}

func TestKinds(t *testing.T) { // ErrArg, if the Kind is none of these
	for _, kind := range []int{-1 << 63, -1, 0, api.CmdSplit, api.CmdPrepare, api.CmdBack, api.CmdAbsorb, api.CmdPeers, api.CmdPeers + 1, 1<<63 - 1} {
		c := of("rollback @5 a")
		c.Kind = kind
		wantText(t, fmt.Sprint("the kind ", kind), told(doWell(t, New(), c)), "arg")
	}
}

// What stands in a field that does not count is looked at only where the chapter says so.
func TestFieldsThatDoNotCount(t *testing.T) {
	for name, kind := range kinds {
		c := api.Cmd{Kind: kind, Start: 5, Commit: 9, ForUpdate: 6, Primary: []byte("a"), Keys: [][]byte{[]byte("a")}, Muts: []api.Mut{mut("a=1")}}
		switch kind {
		case api.CmdCommit:
			c.Muts = []api.Mut{{Kind: 77, Key: []byte("q"), Value: make([]byte, api.MaxValue+1)}}
			c.Secondaries, c.Primary = [][]byte{nil}, nil
			wantText(t, name, told(doWell(t, New(), c)), "nolock a")
		case api.CmdFloor:
			c.Secondaries, c.Primary = [][]byte{nil}, nil
			wantText(t, name, told(doWell(t, New(), c)), "ok")
		}
		for _, muts := range [][]api.Mut{{mut("b=1"), mut("a=1")}, {mut("a=1"), mut("a~")}, {mut("-=1")}, {mut("*65~")}} {
			c.Muts = muts
			wantText(t, name+" with muts that do not count", told(doWell(t, New(), c)), "arg")
		}
	}
}

func TestHowManyKeys(t *testing.T) { // at most MaxKeys
	var l [][]byte
	var muts []api.Mut
	for i := range api.MaxKeys + 1 {
		l = append(l, fmt.Appendf(nil, "%03d", i))
		muts = append(muts, mut(fmt.Sprintf("%03d=1", i)))
	}
	for name, kind := range kinds {
		c := api.Cmd{Kind: kind, Start: 5, Commit: 9, ForUpdate: 6, Primary: []byte("a"), Keys: l[:api.MaxKeys], Muts: muts[:api.MaxKeys]}
		fits := doWell(t, New(), c)
		if kind == api.CmdGC {
			c.Commit = 0
			fits = doWell(t, New(), c)
		}
		if fits.Err == api.ErrArg {
			t.Errorf("%s of %d keys: ErrArg", name, api.MaxKeys)
		}
		c.Keys = l
		want(t, name+" of one key too many", doWell(t, New(), c).Err, api.ErrArg)
		c.Keys, c.Muts = l[:api.MaxKeys], muts
		want(t, name+" of one mut too many", doWell(t, New(), c).Err, api.ErrArg)
	}
	c := api.Cmd{Kind: api.CmdPrewrite, Start: 5, Primary: l[0], Muts: muts[:1], Async: true, Secondaries: append(l, l...)}
	want(t, "more secondaries than that", doWell(t, New(), c).Err, api.OK)
}

func TestMutsThatAreNone(t *testing.T) { // P11.4
	rows := []struct {
		m api.Mut
		e api.Errno
	}{
		{api.Mut{Kind: api.KindPut, Value: make([]byte, api.MaxValue)}, api.OK}, {api.Mut{Kind: api.KindPut, Value: make([]byte, api.MaxValue+1)}, api.ErrArg},
		{api.Mut{Kind: api.KindDelete}, api.OK}, {api.Mut{Kind: api.KindDelete, Value: []byte("v")}, api.ErrArg},
		{api.Mut{Kind: api.KindLock, Value: []byte{}}, api.OK}, {api.Mut{Kind: api.KindLock, Value: []byte("v")}, api.ErrArg},
		{api.Mut{Kind: api.KindPess}, api.ErrArg}, {api.Mut{Kind: api.KindRollback}, api.ErrArg}, {api.Mut{}, api.ErrArg}, {api.Mut{Kind: -1}, api.ErrArg}, {api.Mut{Kind: 6}, api.ErrArg},
	}
	for _, r := range rows {
		r.m.Key = []byte("b")
		c := of("prewrite @5 a=1")
		c.Muts = append(c.Muts, r.m)
		wantText(t, fmt.Sprintf("a mut of kind %d with %d bytes", r.m.Kind, len(r.m.Value)), errName(doWell(t, New(), c).Err), errName(r.e))
	}
}

// The first key that fails is told, whatever fails at those behind it.
func TestFirstKeyThatFails(t *testing.T) {
	s := New()
	script(t, s, `
		prewrite @5 b=1 -> ok at:6
		commit @5 at:20 b -> ok
		rollback @10 c -> ok
		prewrite @30 d=1 -> ok at:31
		prewrite @10 a=1 e=1 -> ok at:11
		prewrite @10 a=1 b=1 c=1 d=1 -> conflict b at:20
		prewrite @10 a=1 c=1 d=1 -> rolled c
		prewrite @10 a=1 d=1 c=1 -> arg
		prewrite @10 a=1 d=1 -> locked d {put d=1 by:d @30 min:31}
		prewrite @10 a=1 e=1 f=1^ -> nolock f
		pess @10 for:10 by:a a b c d -> conflict b at:20
		pess @10 for:20 by:a a b c d -> rolled c
		pess @10 for:20 by:a a b d -> locked d {put d=1 by:d @30 min:31}
		commit @10 at:11 a b c -> nolock b
		commit @10 at:10 a b c -> arg
		commit @10 at:11 a c e -> rolled c
		rollback @5 a b c -> committed b at:20
		image -> 0/0 | a {put a=1 by:a @10 min:11} | b put@5:20=1 | c rolled@10 | d {put d=1 by:d @30 min:31} | e {put e=1 by:a @10 min:11}`)
}

func TestSize(t *testing.T) { // P11.2
	script(t, New(), `
		prewrite @5 a=123 bb=4567 c= d~ e! -> ok at:6
		size -> 11
		commit @5 at:6 a bb c d e -> ok
		size -> 23
		rollback @7 a ff -> ok
		size -> 28
		pess @8 for:8 a g -> ok
		size -> 30
		back @8 for:8 a g -> ok
		size -> 28
		floor at:9 -> ok
		gc at:9 -> ok
		size -> 20`)
}

func TestGet(t *testing.T) { // P11.3
	script(t, New(), `
		prewrite @10 a=1 b=1 -> ok at:11
		commit @10 at:20 a b -> ok
		prewrite @21 a=2 b~ -> ok at:22
		commit @21 at:30 a b -> ok
		prewrite @31 a! b! -> ok at:32
		commit @31 at:40 a b -> ok
		rollback @45 a b -> ok
		get a 0 -> none
		get a 19 -> none
		get a 20 -> =1
		get a 29 -> =1
		get a 30 -> =2
		get a 40 -> =2
		get a 50 -> =2
		get a top -> =2
		get a 18446744073709551615 -> =2
		get b 29 -> =1
		get b 30 -> none
		get b 99 -> none
		get - 99 -> none
		get aa 99 -> none
		get *65 99 -> none
		prewrite @50 a= c=*256 -> ok at:51
		commit @50 at:51 a c -> ok
		get a 51 -> =
		get a 50 -> =2
		get c 51 -> =`+strings.Repeat("k", 256))
}

func TestGetMeetsLocks(t *testing.T) { // P11.3
	s := New()
	script(t, s, `
		prewrite @5 a=1 b=1 c=1 d=1 -> ok at:6
		commit @5 at:6 a b c d -> ok
		prewrite @10 at:15 a=2 b~ c! -> ok at:15
		pess @10 for:12 d -> ok
		get a 9 -> =1
		get a 10 -> =1
		get a 14 -> =1
		get a 15 -> locked a {put a=2 by:a @10 min:15}
		get a top -> locked a {put a=2 by:a @10 min:15}
		get b 14 -> =1
		get b 15 -> locked b {delete b by:a @10 min:15}
		get c 15 -> =1
		get c top -> =1
		get d top -> =1
		prewrite @10 by:b +async max:70 with:q,a b= e= -> ok at:71
		get b 71 -> locked b {delete b by:a @10 min:15}
		get e 70 -> none
		get e 71 -> locked e {put e= by:b @10 min:71 +async}
		prewrite @80 f=1 +async by:f with:g,h -> ok at:81
		get f 81 -> locked f {put f=1 by:f @80 min:81 +async with:g,h}`)
}

func TestGetTooOld(t *testing.T) { // P11.3: ahead of ErrLocked
	script(t, New(), `
		prewrite @5 a=1 -> ok at:6
		commit @5 at:6 a -> ok
		floor at:20 -> ok
		get a 5 -> none
		get a 6 -> =1
		gc at:10 -> ok
		get a 9 -> tooold
		get z 9 -> tooold
		get - 0 -> tooold
		get a 10 -> =1
		prewrite @21 a=2 -> ok at:22
		get a 9 -> tooold
		scan - - 9 9 -> tooold
		scan - - 0 9 -> tooold
		scan b a 9 9 -> tooold
		scan - - 9 10 -> ok a=1`)
}

func TestScan(t *testing.T) { // P11.3
	s := New()
	script(t, s, `
		prewrite @5 a=1 b=2 c=3 d=4 e=5 -> ok at:6
		commit @5 at:10 a b c d e -> ok
		prewrite @11 b~ c! -> ok at:12
		commit @11 at:20 b c -> ok
		rollback @15 bb -> ok
		pess @15 for:15 cc -> ok
		scan - - 9 9 -> ok
		scan - - 9 10 -> ok a=1 b=2 c=3 d=4 e=5
		scan - - 9 20 -> ok a=1 c=3 d=4 e=5
		scan - - 2 20 -> ok a=1 c=3
		scan - - 1 20 -> ok a=1
		scan - - 0 20 -> ok
		scan - - -1 20 -> ok
		scan b - 9 10 -> ok b=2 c=3 d=4 e=5
		scan b d 9 10 -> ok b=2 c=3
		scan a0 d0 9 10 -> ok b=2 c=3 d=4
		scan - a 9 10 -> ok
		scan c c 9 10 -> ok
		scan d b 9 10 -> ok
		scan f - 9 10 -> ok
		scan - *65 9 10 -> ok a=1 b=2 c=3 d=4 e=5
		prewrite @30 d=9 -> ok at:31
		scan - - 9 30 -> ok a=1 c=3 d=4 e=5
		scan - - 9 31 -> locked d {put d=9 by:d @30 min:31}
		scan - - 3 31 -> locked d {put d=9 by:d @30 min:31}
		scan - - 2 31 -> ok a=1 c=3
		scan - d 9 31 -> ok a=1 c=3
		scan - d0 9 31 -> locked d {put d=9 by:d @30 min:31}
		scan d0 - 9 31 -> ok e=5
		scan - - 0 31 -> ok
		prewrite @30 a~ by:d -> ok at:31
		scan - - 9 31 -> locked a {delete a by:d @30 min:31}`)
}

func TestScanTellsAtMost(t *testing.T) { // P11.3: MaxScan
	s := New()
	for i := range 2 * api.MaxScan {
		k := fmt.Sprintf("%03d", i)
		script(t, s, "prewrite @5 +one "+k+"="+k+" -> ok at:6")
	}
	for _, limit := range []int{api.MaxScan - 1, api.MaxScan, api.MaxScan + 1, 1 << 40} {
		l, r := s.Scan(nil, nil, limit, 9)
		if r.Err != api.OK || len(l) != min(limit, api.MaxScan) || string(l[len(l)-1].Key) != fmt.Sprintf("%03d", len(l)-1) {
			t.Errorf("Scan with the limit %d: %d pairs, error %d", limit, len(l), r.Err)
		}
	}
	// What is behind the last pair that is told is not met.
	script(t, s, "prewrite @7 064~ -> ok at:8")
	if l, r := s.Scan(nil, nil, 1<<40, 9); r.Err != api.OK || len(l) != api.MaxScan {
		t.Errorf("Scan up to a lock: %d pairs, error %d", len(l), r.Err)
	}
	if l, r := s.Scan([]byte("001"), nil, 1<<40, 9); r.Err != api.ErrLocked || len(l) != 0 {
		t.Errorf("Scan over a lock: %d pairs, error %d", len(l), r.Err)
	}
}

func TestLocks(t *testing.T) { // P11.3
	s := New()
	script(t, s, `
		prewrite @5 a=1 -> ok at:6
		prewrite @9 b~ d! -> ok at:10
		pess @7 for:8 c -> ok
		rollback @3 cc -> ok
		locks - - 9 4 ->
		locks - - 9 5 -> {put a=1 by:a @5 min:6}
		locks - - 9 7 -> {put a=1 by:a @5 min:6} {pess c by:c @7 for:8 min:9}
		locks - - 9 9 -> {put a=1 by:a @5 min:6} {delete b by:b @9 min:10} {pess c by:c @7 for:8 min:9} {lock d by:b @9 min:10}
		locks - - 2 9 -> {put a=1 by:a @5 min:6} {delete b by:b @9 min:10}
		locks - - 2 8 -> {put a=1 by:a @5 min:6} {pess c by:c @7 for:8 min:9}
		locks - - 0 9 ->
		locks - - -7 9 ->
		locks b d 9 9 -> {delete b by:b @9 min:10} {pess c by:c @7 for:8 min:9}
		locks b0 - 9 9 -> {pess c by:c @7 for:8 min:9} {lock d by:b @9 min:10}
		locks d b 9 9 ->
		locks e - 9 9 ->
		floor at:4 -> ok
		gc at:4 -> ok
		locks a b 9223372036854775807 3 ->
		locks a b 9223372036854775807 6 -> {put a=1 by:a @5 min:6}`)
	for i := range 2 * api.MaxScan {
		script(t, s, fmt.Sprintf("pess @20 for:20 k%03d -> ok", i))
	}
	if l := s.Locks(nil, nil, 1000, 30); len(l) != 2*api.MaxScan+4 {
		t.Errorf("Locks: %d of them", len(l))
	}
}
