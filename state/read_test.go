package state

import (
	"fmt"
	"math"
	"strings"
	"testing"
)

func TestReads(t *testing.T) { // P13.4
	s := home(t)
	script(t, s, `
		prewrite :2/4 @9 by:e +async with:zz e=1 -> ok at:10
		floor :2/4 at:6 -> ok
		gc :2/4 at:6 -> ok
		get c 9 2/4 -> =1
		get c 6 2/4 -> none
		get c 5 2/4 -> tooold
		get b 9 2/4 -> none
		get szz 9 2/4 -> none
		get e 9 2/4 -> none
		get e 10 2/4 -> locked e {1 e=1 by:e @9 for:0 min:10 +async with:zz}
		get *99 9 2/4 -> none
		scan - - 9 9 2/4 -> ok c=1 d=2
		scan - - 1 9 2/4 -> ok c=1
		scan c d 9 9 2/4 -> ok c=1
		scan d - 9 9 2/4 -> ok d=2
		scan - - 0 9 2/4 -> ok
		scan - - -1 9 2/4 -> ok
		scan - - 9 10 2/4 -> locked e {1 e=1 by:e @9 for:0 min:10 +async with:zz}
		scan - e 9 10 2/4 -> ok c=1 d=2
		scan - - 9 5 2/4 -> tooold
		scan - a 9 5 2/4 -> tooold
		locks - - 9 9 2/4 -> ok {1 e=1 by:e @9 for:0 min:10 +async with:zz}
		locks - - 9 8 2/4 -> ok
		locks - - 0 9 2/4 -> ok
		locks - - -5 9 2/4 -> ok
		locks f - 9 9 2/4 -> ok
		locks - e 9 9 2/4 -> ok
		locks e f 9 1 2/4 -> ok`)
	// Ranges that are not, or not wholly, the region's.
	for _, r := range []struct{ from, to, is string }{
		{"a", "z", "c d"}, {"-", "b", ""}, {"-", "a", ""}, {"-", "d", "c"}, {"t", "-", ""}, {"t", "z", ""}, {"s", "t", ""}, {"d", "t", "d"}, {"d", "zz", "d"}, {"d", "c", ""}, {"z", "a", ""}, {"c", "c", ""}, {"a", "-", "c d"}, {"-", "z", "c d"}, {"b", "t", "c d"},
	} {
		l, res := s.Scan(key(r.from), key(r.to), 9, 9, epoch("2/4"))
		var found []string
		for _, p := range l {
			found = append(found, string(p.Key))
		}
		wantText(t, fmt.Sprint("Scan ", r.from, " ", r.to), told(res)+strings.Join(found, " "), "ok"+r.is)
	}
}

func TestReadsRefused(t *testing.T) { // P13.4: ErrFrozen, ErrEpoch, ErrRange of Get alone
	s := home(t)
	script(t, s, "floor :2/4 at:6 -> ok\ngc :2/4 at:6 -> ok\nprewrite :2/4 @9 e=1 -> ok at:10")
	closed := func(s *State, at, is string) {
		t.Helper()
		was := s.Export()
		for _, k := range []string{"c", "a", "t", "-", "e"} {
			for _, ts := range []string{"0", "9", "top"} {
				script(t, s, fmt.Sprintf("get %s %s %s -> %s\nscan %s - 9 %[2]s %[3]s -> %[4]s\nlocks %[1]s - 9 %[2]s %[3]s -> %[4]s", k, ts, at, is, k))
			}
		}
		script(t, s, fmt.Sprintf("scan - - 0 9 %s -> %s\nlocks - - -1 9 %[1]s -> %[2]s", at, is))
		if string(s.Export()) != string(was) {
			t.Errorf("a read changes the state")
		}
	}
	for _, at := range []string{"2/3", "2/5", "0/0", "4/2", fmt.Sprint("2/", uint64(math.MaxUint64))} {
		closed(s, at, "epoch "+homeRegion)
	}
	for _, at := range []string{"2/4", "0/4", "9/4"} { // Conf does not matter to a read
		script(t, s, strings.ReplaceAll(`
			get c 9 AT -> =1
			get a 9 AT -> range a
			get azz 0 AT -> range azz
			get t 9 AT -> range t
			get z 9 AT -> range z
			get - 9 AT -> range
			get c 0 AT -> tooold
			scan - - 9 9 AT -> ok c=1 d=2
			locks - - 9 9 AT -> ok {1 e=1 by:e @9 for:0 min:10}`, "AT", at))
	}
	held := copyOf(t, s)
	script(t, held, "prepare :2/4 #9 +force -> ok\nget c 9 2/4 -> =1\nscan - - 9 9 2/4 -> ok c=1 d=2\nlocks - - 9 8 2/4 -> ok\nget c 9 2/3 -> epoch "+homeRegion)
	script(t, s, "prepare :2/4 #9 -> ok")
	for _, at := range []string{"2/4", "2/3", "0/0"} {
		closed(s, at, "frozen")
	}
	script(t, s, "back #9 -> ok\nget c 9 2/4 -> =1\nscan - - 9 9 2/4 -> ok c=1 d=2")
	script(t, fresh(t, three), "get - 9 1/1 -> none\nscan - - 9 9 1/1 -> ok\nlocks - - 9 9 1/1 -> ok")
}
