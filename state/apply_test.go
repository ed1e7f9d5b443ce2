package state

import (
	"fmt"
	"math"
	"slices"
	"strings"
	"testing"

	"regatta/api"
)

// home is region 5 with data, behind a merge 20 of region 3: 5 [b, t) 2/4.
func home(t *testing.T) *State {
	t.Helper()
	s := fresh(t, "5 b m 1/3 1@1 2@2")
	script(t, s, `
		prewrite :1/3 @5 c=1 d=2 -> ok at:6
		commit :1/3 @5 at:7 c d -> ok
		prepare :1/3 #20 +force -> ok`)
	c := of("absorb :1/3 #20")
	c.Region = regionOf("3 m t 8/1 8@2 9@1")
	r, _ := apply(t, s, c)
	want(t, "absorb", r.Err, api.OK)
	want(t, "Conf", s.Conf(s.Applied()+1, confOf("1,2")), api.OK)
	return s
}

func TestHome(t *testing.T) { // P13.2: CmdAbsorb
	wantText(t, "the state", tells(home(t)), "5 [b, t) 2/4: 1@1 2@2 frozen 0 held 0 swallowed [3 20] places size 8 image 0/0 | c 1@5:7=1 | d 1@5:7=2")
}

const homeRegion = "5 [b, t) 2/4: 1@1 2@2"

// expected is what is answered ahead of what a kind does, by the words of P13.2; "" if nothing is.
func expected(s *State, c api.Cmd) string {
	elevens := c.Kind >= 1 && c.Kind <= 10
	four := c.Kind == api.CmdSplit || c.Kind == api.CmdPrepare || c.Kind == api.CmdAbsorb || c.Kind == api.CmdPeers
	if c.Kind == api.CmdBack {
		if c.ID > 0 && (s.Frozen() == c.ID || s.Held() == c.ID) {
			return ""
		}
		return "merge"
	}
	if s.Frozen() > 0 {
		return "frozen"
	}
	if c.Kind == api.CmdAbsorb && slices.Contains(s.Swallowed(), c.ID) {
		return "ok"
	}
	if elevens && c.Epoch.Version != 4 || four && c.Epoch != epoch("2/4") {
		return "epoch " + homeRegion
	}
	if !elevens && !four {
		return "arg"
	}
	if elevens {
		for _, m := range c.Muts {
			if string(m.Key) < "b" || string(m.Key) >= "t" {
				return strings.TrimSpace("range " + string(m.Key))
			}
		}
		for _, k := range c.Keys {
			if string(k) < "b" || string(k) >= "t" {
				return strings.TrimSpace("range " + string(k))
			}
		}
		if k := c.Primary; c.Kind == api.CmdCheck && (string(k) < "b" || string(k) >= "t") {
			return strings.TrimSpace("range " + string(k))
		}
	}
	return ""
}

func TestErrorsInOrder(t *testing.T) { // P13.2
	states := map[string]string{"open": "skip", "held": "prepare :2/4 #9 +force", "frozen": "prepare :2/4 #9", "held by one that is swallowed": "prepare :2/4 #20 +force"}
	met := map[string]int{}
	for name, how := range states {
		s := home(t)
		script(t, s, how+" -> ok")
		for _, kind := range []int{math.MinInt, -1, 0, 1, 2, 3, 4, 5, 6, 7, 8, 9, 10, 11, 12, 13, 14, 15, 16, 99, math.MaxInt} {
			for _, at := range []string{"2/4", "1/4", "3/4", "2/3", "2/5", "0/0", "4/2"} {
				for _, id := range []uint64{0, 8, 9, 20, 3, math.MaxUint64} {
					for _, rest := range []string{"@5", "@5 c", "@5 c=1", "@5 a", "@5 c t", "@5 a=1 by:c", "@5 c=1 t=1 by:c u", "@5 c=1 a", "@5 by:a c", "@5 by:t", "@5 by:c", "@5 - by:c", "@5 by:- c"} {
						c := of(fmt.Sprintf("%d :%s #%d %s", kind, at, id, rest))
						is := expected(s, c)
						x := copyOf(t, s)
						was := tells(x)
						r, right, e := x.Apply(s.Applied()+1, c)
						if e != api.OK || x.Applied() != s.Applied()+1 {
							t.Errorf("%s: %+v: error %d, applied %d", name, c, e, x.Applied())
						}
						if is != "" && (told(r) != is || right != nil || tells(x) != was) {
							t.Fatalf("%s: %+v: %s; want %s", name, c, told(r), is)
						}
						if is == "" && (r.Err == api.ErrEpoch || r.Err == api.ErrRange && kind != api.CmdSplit || r.Err == api.ErrFrozen) {
							t.Fatalf("%s: %+v: %s", name, c, told(r))
						}
						met[strings.Fields(is + " -")[0]]++
					}
				}
			}
		}
	}
	for _, is := range []string{"merge", "frozen", "ok", "epoch", "arg", "range", "-"} {
		if met[is] < 50 {
			t.Errorf("%s was met %d times", is, met[is])
		}
	}
}

func TestKeysOutside(t *testing.T) { // P13.2: ErrRange, the first: of Muts, of Keys, of CmdCheck Primary
	script(t, home(t), `
		prewrite :2/4 @9 b=1 s=2 -> ok at:10
		prewrite :2/4 @9 szz=1 -> ok at:10
		prewrite :2/4 @9 t=1 -> range t
		prewrite :2/4 @9 a=1 -> range a
		prewrite :2/4 @9 azz=1 u=1 -> range azz
		prewrite :2/4 @9 c=1 t=1 z=1 -> range t
		prewrite :2/4 @9 e=1 a -> range a
		prewrite :2/4 @9 e=1 t=1 a -> range t
		// A primary may be anywhere, secondaries too.
		prewrite :2/4 @9 by:zz +async with:a,z e=1 -> ok at:10
		pess :2/4 @9 for:9 by:a f -> ok
		pess :2/4 @9 for:9 by:f a -> range a
		check :2/4 @9 by:a -> range a
		check :2/4 @9 by:t -> range t
		check :2/4 @9 by:- -> range
		check :2/4 @9 by:- c -> range
		check :2/4 @9 by:a u -> range u
		check :2/4 @9 by:a c -> range a
		check :2/4 @4 by:c -> ok
		commit :2/4 @9 at:10 b t -> range t
		rollback :2/4 @9 - b -> range
		secondaries :2/4 @9 a b -> range a
		resolve :2/4 @9 t -> range t
		pessback :2/4 @9 for:9 t -> range t
		// Of each kind, whether it asks for keys or not, and ahead of what is wrong beside it.
		floor :2/4 at:1 t -> range t
		floor :2/4 at:1 a=1 -> range a
		gc :2/4 at:1 b t -> range t
		gc :2/4 at:far t -> range t
		commit :2/4 @0 at:0 c t -> range t
		prewrite :2/4 @9 s=1 c=1 t=1 -> range t
		prewrite :2/4 @9 *65=1 t -> range t
		// What is covered goes to chapter 11.
		prewrite :2/4 @9 *65=1 -> arg
		prewrite :2/4 @0 c=1 -> arg
		prewrite :2/4 @6 c=1 -> conflict c at:7
		floor :2/4 at:4 -> ok
		gc :2/4 at:5 -> arg
		rollback :2/4 @9 b e f s szz -> ok`)
	script(t, fresh(t, three), `
		prewrite :1/1 @9 -=1 -> arg
		rollback :1/1 @9 - -> arg
		check :1/1 @9 by:- -> arg`)
}

func TestEpochs(t *testing.T) { // P13.2: the Version alone, of the kinds of chapter 11; else both numbers
	s := home(t)
	for _, kind := range []string{"prewrite @9 c=1", "commit @5 at:7 c", "rollback @8 c", "pess @9 for:9 c", "pessback @9 for:9 c", "check @5 by:c", "secondaries @5 c", "resolve @5 c", "floor at:1", "gc at:0"} {
		for _, at := range []string{":2/3", ":2/5", ":0/0", ":2/top"} {
			script(t, s, kind+" "+at+" -> epoch "+homeRegion)
		}
		for _, at := range []string{":2/4", ":1/4", ":3/4", ":top/4"} {
			if r, _ := apply(t, copyOf(t, s), of(kind+" "+at)); r.Err != api.OK {
				t.Errorf("%s %s: %s", kind, at, told(r))
			}
		}
	}
	for _, kind := range []string{"split m #7 on:4,5", "prepare #9", "prepare #9 +force", "absorb #9", "peers", "peers on:1@0", "split", "prepare", "absorb", "split a #7"} {
		for _, at := range []string{":2/3", ":2/5", ":1/4", ":3/4", ":0/0", ":4/2"} {
			script(t, s, kind+" "+at+" -> epoch "+homeRegion)
		}
	}
	script(t, s, "peers :2/4 -> ok\nback #9 :9/9 -> merge\n99 :9/9 -> arg\nprepare :2/4 #9 -> ok\nback #9 :9/9 -> ok")
}

func TestTransactions(t *testing.T) { // P13.2: mvcc's Do, with all that it answers
	script(t, home(t), `
		prewrite :2/4 @10 by:e +async max:20 with:f,zz e=1 f~ g! -> ok at:21
		prewrite :2/4 @11 f=1 -> locked f {2 f= by:e @10 for:0 min:21 +async}
		check :2/4 @10 by:e -> ok LOCKED {1 e=1 by:e @10 for:0 min:21 +async with:f,zz}
		secondaries :2/4 @10 f g -> ok at:21 LOCKED
		commit :2/4 @10 at:20 e -> early e at:21
		commit :2/4 @10 at:22 e -> ok
		check :2/4 @10 by:e -> ok at:22 COMMITTED
		resolve :2/4 @10 at:22 -> ok
		rollback :2/4 @10 f -> committed f at:22
		pess :2/4 @30 for:31 h -> ok
		prewrite :2/4 @30 h=1 +one max:40 -> ok at:41
		prewrite :2/4 @30 h=1 +one max:40 -> committed h at:41
		rollback :2/4 @50 h -> ok
		commit :2/4 @50 at:51 h -> rolled h
		commit :2/4 @51 at:52 h -> nolock h
		floor :2/4 at:45 -> ok
		gc :2/4 at:46 -> arg
		gc :2/4 at:22 -> ok
		prewrite :2/4 @45 i=1 -> tooold i
		check :2/4 @9 by:i -> tooold i
		image -> 45/22 | c 1@5:7=1 | d 1@5:7=2 | e 1@10:22=1 | f 2@10:22= | h 5@50:50= 1@30:41=1
		size -> 20`)
}

func TestSplit(t *testing.T) { // P13.2: CmdSplit
	s := home(t)
	script(t, s, `
		peers :2/4 on:1@1 -> ok
		floor :2/4 at:4 -> ok
		gc :2/4 at:3 -> ok
		prewrite :2/4 @9 s=9 -> ok at:10`)
	right := script(t, s, `
		split :2/4 d #77 on:40@9,50@8~ -> ok 77 [d, t) 2/5: 40@1 50@2
		region -> 5 [b, d) 2/5: 1@1 2@2
		image -> 4/3 | c 1@5:7=1
		places -> 1@1
		swallowed -> [3 20]`)
	wantText(t, "the right one", tells(right), "77 [d, t) 2/5: 40@1 50@2 frozen 0 held 0 swallowed [] places size 6 image 4/3 | d 1@5:7=2 | s {1 s=9 by:s @9 for:0 min:10}")
	if right.Applied() != 0 {
		t.Errorf("the right one: applied %d", right.Applied())
	}
	copyOf(t, right)
	// They have nothing in common any more.
	script(t, s, "prewrite :2/5 @9 c=9 -> ok at:10\nprewrite :2/5 @9 d=9 -> range d\nfloor :2/5 at:9 -> ok\nprepare :2/5 #9 -> ok")
	script(t, right, `
		image -> 4/3 | d 1@5:7=2 | s {1 s=9 by:s @9 for:0 min:10}
		commit :2/5 @9 at:11 s -> ok
		split :2/5 dd #5 on:60,70 -> ok 5 [dd, t) 2/6: 60@1 70@2
		region -> 77 [d, dd) 2/6: 40@1 50@2
		image -> 4/3 | d 1@5:7=2`)
	script(t, s, "image -> 9/3 | c {1 c=9 by:c @9 for:0 min:10} 1@5:7=1\nregion -> 5 [b, d) 2/5: 1@1 2@2")
}

func TestSplitRefused(t *testing.T) { // P13.2: ErrMerge; ErrArg, if there is not one key; region.Split's error
	for _, r := range []string{
		"split :2/4 #7 on:4,5 -> arg", "split :2/4 c d #7 on:4,5 -> arg", "split :2/4 a t #7 on:4,5 -> arg", "split :2/4 -> arg", "split :2/4 c=1 #7 on:4,5 -> arg",
		"split :2/4 b #7 on:4,5 -> range", "split :2/4 t #7 on:4,5 -> range", "split :2/4 a #7 on:4,5 -> range", "split :2/4 - #7 on:4,5 -> range", "split :2/4 a #0 on:4 -> range",
		"split :2/4 *65 #7 on:4,5 -> arg", "split :2/4 c #0 on:4,5 -> arg", "split :2/4 c #5 on:4,5 -> arg", "split :2/4 c #7 -> arg", "split :2/4 c #7 on:4 -> arg",
		"split :2/4 c #7 on:4,5,6 -> arg", "split :2/4 c #7 on:5,4 -> arg", "split :2/4 c #7 on:4,4 -> arg", "split :2/4 c #7 on:0,4 -> arg",
	} {
		s := home(t)
		script(t, s, r)
		script(t, s, "prepare :2/4 #9 +force -> ok\n"+strings.Split(r, "->")[0]+"-> merge\nsplit :2/4 c #7 on:4,5 -> merge\nsplit :2/3 c #7 on:4,5 -> epoch "+homeRegion)
		script(t, s, "back #9 -> ok\nsplit :2/4 *64 #7 on:4,5 -> ok 7 ["+strings.Repeat("k", 64)+", t) 2/5: 4@1 5@2")
	}
	script(t, fresh(t, "5 - - 1/top 1@1"), fmt.Sprintf("split :1/top c #7 on:4 -> arg\nregion -> 5 [, ) 1/%d: 1@1", uint64(math.MaxUint64)))
}

func TestPrepareAndBack(t *testing.T) { // P13.2: CmdPrepare, CmdBack
	script(t, home(t), `
		back #0 -> merge
		back #9 -> merge
		prepare :2/4 #0 -> merge
		prepare :2/4 #0 +force -> merge
		// Held: it goes on, but stays where it is.
		prepare :2/4 #9 +force -> ok
		held -> 9
		frozen -> 0
		get c 9 2/4 -> =1
		prewrite :2/4 @9 e=1 -> ok at:10
		prepare :2/4 #9 +force -> merge
		prepare :2/4 #8 -> merge
		prepare :2/4 #0 -> merge
		peers :2/4 on:1@1 -> merge
		peers :2/4 on:1@0 -> merge
		back #0 -> merge
		back #8 -> merge
		held -> 9
		back #9 -> ok
		held -> 0
		back #9 -> merge
		// Frozen: nothing but CmdBack.
		prepare :2/4 #18446744073709551615 -> ok
		frozen -> 18446744073709551615
		held -> 0
		rollback :2/4 @9 e -> frozen
		rollback :1/3 @9 a -> frozen
		prepare :2/4 #9 -> frozen
		prepare :2/4 #9 +force -> frozen
		peers :2/4 -> frozen
		split :2/4 c #7 on:4,5 -> frozen
		absorb :2/4 #20 -> frozen
		99 -> frozen
		0 -> frozen
		back #0 -> merge
		back #9 -> merge
		back #18446744073709551615 :7/7 @far x y=1 on:0@0 +force -> ok
		frozen -> 0
		rollback :2/4 @9 e -> ok`)
}

func TestPeers(t *testing.T) { // P13.2: CmdPeers
	script(t, home(t), `
		places ->
		peers :2/4 on:9@3~,1@1,9@4,7@2147483648 -> ok
		places -> 9@3~ 1@1 9@4 7@2147483648
		peers :2/4 on:1@1,0@1 -> arg
		peers :2/4 on:1@1,2@0 -> arg
		peers :2/4 on:2@-1,1@1 -> arg
		peers :2/4 on:1@1,2@2,3@3,4@4,5@5,6@6,7@7,8@8,9@9,10@10 -> arg
		places -> 9@3~ 1@1 9@4 7@2147483648
		peers :2/4 on:1@1,2@2,3@3,4@4,5@5,6@6,7@7,8@8,9@9 -> ok
		places -> 1@1 2@2 3@3 4@4 5@5 6@6 7@7 8@8 9@9
		peers :2/4 on:18446744073709551615@9223372036854775807 -> ok
		places -> 18446744073709551615@9223372036854775807
		peers :2/4 -> ok
		places ->`)
}

// absorbing is a command with a source that is a text.
func absorbing(s, source string, x api.Image) api.Cmd {
	c := of(s)
	c.Region, c.Image = regionOf(source), x
	return c
}

func TestAbsorb(t *testing.T) { // P13.2: CmdAbsorb, of a source behind and of one ahead
	s := home(t)
	script(t, s, "floor :2/4 at:4 -> ok\nprepare :2/4 #10 +force -> ok\nprewrite :2/4 @9 e=1 -> ok at:10")
	c := absorbing("absorb :2/4 #10", "11 t z 2/9 30@1 31@2", imageOf("t", "u", "yzz"))
	r, _ := apply(t, s, c)
	wantText(t, "absorb", told(r), "ok")
	wantText(t, "behind it", tells(s), "5 [b, z) 2/10: 1@1 2@2 frozen 0 held 0 swallowed [3 10 11 20] places size 21 image 4/2 | c 1@5:7=1 | d 1@5:7=2 | e {1 e=1 by:e @9 for:0 min:10} | t 5@1:1= | u 5@1:1= | yzz 5@1:1=")
	// It comes again: nothing is done, whatever its epoch, and whatever else it says.
	was := tells(s)
	for _, at := range []string{":2/4", ":2/10", ":0/0"} {
		for _, id := range []string{"#10", "#20", "#11", "#3"} {
			for _, x := range []api.Cmd{c, absorbing("absorb", "0", api.Image{GC: 1 << 62})} {
				x.Epoch, x.ID = of("absorb "+at).Epoch, of("absorb "+id).ID
				r, _ = apply(t, s, x)
				wantText(t, "absorb again "+at+" "+id, told(r), "ok")
				wantText(t, "behind it", tells(s), was)
			}
		}
	}
	script(t, s, "prepare :2/10 #30 +force -> ok")
	r, _ = apply(t, s, absorbing("absorb :2/10 #10", "12 - b 1/1 30@1 31@2", api.Image{}))
	wantText(t, "absorb again while another one is under way", told(r)+fmt.Sprint(s.Held()), "ok30")
	r, _ = apply(t, s, absorbing("absorb :2/10 #30", "12 - b 1/1 30@1 31@2", imageOf("a", "azz")))
	wantText(t, "absorb the one ahead", told(r), "ok")
	wantText(t, "behind it", toldRegion(s.Region())+fmt.Sprint(s.Swallowed()), "5 [, z) 2/11: 1@1 2@2[3 10 11 12 20 30]")
	// A merge that has the source's number is told once.
	script(t, s, "prepare :2/11 #40 +force -> ok")
	r, _ = apply(t, s, absorbing("absorb :2/11 #40", "40 z - 1/1 30@1 31@2", imageOf("z", "zz")))
	wantText(t, "absorb the last one", told(r)+fmt.Sprint(toldRegion(s.Region()), s.Swallowed()), "ok5 [, ) 2/12: 1@1 2@2[3 10 11 12 20 30 40]")
}

func TestAbsorbRefused(t *testing.T) { // P13.2: ErrMerge, region.Merge's error, mvcc.Load's, ErrRange
	const good = "11 t z 2/9 30@1 31@2"
	bad := api.Image{GC: 1 << 62}
	for _, r := range []struct {
		cmd, source string
		image       api.Image
		is          string
	}{
		{"absorb :2/4 #0", "0", bad, "merge"}, {"absorb :2/4 #8", "0", bad, "merge"}, {"absorb :2/4 #0", good, imageOf("t"), "merge"}, {"absorb :2/4 #8", good, imageOf("t"), "merge"},
		{"absorb :2/4 #9", "0", bad, "arg"}, {"absorb :2/4 #9", "11 z t 2/9 30@1 31@2", bad, "range"}, {"absorb :2/4 #9", "11 t z 2/9", bad, "arg"}, {"absorb :2/4 #9", "5 t z 2/9 30@1 31@2", bad, "arg"},
		{"absorb :2/4 #9", "11 u z 2/9 30@1 31@2", bad, "range"}, {"absorb :2/4 #9", "11 s z 2/9 30@1 31@2", bad, "range"}, {"absorb :2/4 #9", "11 - - 2/9 30@1 31@2", bad, "range"}, {"absorb :2/4 #9", "11 - a 2/9 30@1 31@2", bad, "range"},
		{"absorb :2/4 #9", "11 t z 2/9 30@1 31@3", bad, "epoch"}, {"absorb :2/4 #9", "11 t z 2/9 30@1", bad, "epoch"}, {"absorb :2/4 #9", "11 t z 2/9 30@1 31@2~", bad, "epoch"}, {"absorb :2/4 #9", "11 t z 2/top 30@1 31@2", bad, "arg"},
		{"absorb :2/4 #9", good, bad, "arg"}, {"absorb :2/4 #9", good, imageOf("a", ""), "arg"}, {"absorb :2/4 #9", good, imageOf("u", "t"), "arg"},
		{"absorb :2/4 #9", good, imageOf("c"), "range"}, {"absorb :2/4 #9", good, imageOf("szz", "t"), "range"}, {"absorb :2/4 #9", good, imageOf("t", "z"), "range"}, {"absorb :2/4 #9", "11 a b 2/9 30@1 31@2", imageOf("a", "b"), "range"},
	} {
		c := absorbing(r.cmd, r.source, r.image)
		s := home(t)
		got, _ := apply(t, s, c)
		wantText(t, "of one that is not held: "+r.cmd+" "+r.source, told(got), "merge")
		script(t, s, "prepare :2/4 #9 +force -> ok")
		got, _ = apply(t, s, c)
		wantText(t, r.cmd+" "+r.source+" "+toldImage(r.image), told(got), r.is)
		got, _ = apply(t, s, absorbing("absorb :2/4 #9", good, imageOf("t")))
		wantText(t, "a good one behind it", told(got)+fmt.Sprint(s.Held(), s.Swallowed()), "ok0 [3 9 11 20]")
	}
	s := home(t)
	script(t, s, "prepare :2/4 #9 -> ok")
	got, _ := apply(t, s, absorbing("absorb :2/4 #9", good, imageOf("t")))
	wantText(t, "of one that is frozen by it", told(got), "frozen")
	// One that is held by a merge that is swallowed is held till CmdBack.
	s = home(t)
	script(t, s, "prepare :2/4 #20 +force -> ok")
	got, _ = apply(t, s, absorbing("absorb :2/4 #20", good, imageOf("t")))
	wantText(t, "of one that is held by what is swallowed", told(got)+" "+toldRegion(s.Region()), "ok "+homeRegion)
	script(t, s, "held -> 20\nback #20 -> ok\nheld -> 0")
}
