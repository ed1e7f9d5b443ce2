package region

import (
	"testing"

	"regatta/api"
)

func TestCheck(t *testing.T) { // P10.1
	rows := []struct {
		r string
		e api.Errno
	}{
		{"1 - - 1/1 1@1", api.OK},
		{"18446744073709551615 - - 0/0 1@1 18446744073709551615@9223372036854775807", api.OK},
		{"1 a b 0/18446744073709551615 1@2 2@1 7@5~", api.OK}, // stores in any order
		{"1 a - 1/1 1@1~ 2@2 3@3~", api.OK},
		{"1 - a 1/1 1@1", api.OK},
		{"1 a aa 1/1 1@1", api.OK},
		{"1 *64 - 1/1 1@1", api.OK},
		{"1 - *64 1/1 1@1", api.OK},
		{"1 - - 1/1 1@1 2@2 3@3 4@4 5@5 6@6 7@7 8@8 9@9", api.OK},
		{"1 - - 1/1 1@1~ 2@2~ 3@3~ 4@4~ 5@5~ 6@6~ 7@7~ 8@8~ 9@9", api.OK},

		{"0 - - 1/1 1@1", api.ErrArg},
		{"1 *65 - 1/1 1@1", api.ErrArg},
		{"1 - *65 1/1 1@1", api.ErrArg},
		{"0 b a 1/1 1@1", api.ErrArg}, // ahead of ErrRange
		{"1 l *65 1/1 1@1", api.ErrArg},
		{"1 *65 k 1/1 1@1", api.ErrArg},

		{"1 b a 1/1 1@1", api.ErrRange},
		{"1 b b 1/1 1@1", api.ErrRange},
		{"1 aa a 1/1 1@1", api.ErrRange},
		{"1 b b 1/1", api.ErrRange}, // ahead of what is wrong with the peers
		{"1 b a 1/1 2@1 1@1", api.ErrRange},

		{"1 - - 1/1", api.ErrArg},
		{"1 - - 1/1 1@1 2@2 3@3 4@4 5@5 6@6 7@7 8@8 9@9 10@10", api.ErrArg},
		{"1 - - 1/1 0@1", api.ErrArg},
		{"1 - - 1/1 0@1 1@2", api.ErrArg},
		{"1 - - 1/1 2@1 1@2", api.ErrArg},
		{"1 - - 1/1 1@1 1@2", api.ErrArg},
		{"1 - - 1/1 1@1 3@2 2@3", api.ErrArg},
		{"1 - - 1/1 1@0", api.ErrArg},
		{"1 - - 1/1 1@1 2@0", api.ErrArg},
		{"1 - - 1/1 1@1 2@-1", api.ErrArg},
		{"1 - - 1/1 1@1 2@1", api.ErrArg},
		{"1 - - 1/1 1@1 2@2 3@1~", api.ErrArg},
		{"1 - - 1/1 1@1~", api.ErrArg},
		{"1 - - 1/1 1@1~ 2@2~", api.ErrArg},
	}
	for _, r := range rows {
		want(t, "Check("+r.r+")", Check(of(r.r)), r.e)
	}
	want(t, "Check of nothing", Check(api.Region{}), api.ErrArg)
}

func TestCovers(t *testing.T) { // P10.1
	rows := []struct {
		r, key string
		is     bool
	}{
		{"1 b d", "-", false}, {"1 b d", "a", false}, {"1 b d", "az", false}, {"1 b d", "b", true}, {"1 b d", "b0", true},
		{"1 b d", "c", true}, {"1 b d", "czzz", true}, {"1 b d", "d", false}, {"1 b d", "d0", false}, {"1 b d", "e", false},
		{"1 - d", "-", true}, {"1 - d", "a", true}, {"1 - d", "d", false},
		{"1 b -", "-", false}, {"1 b -", "b", true}, {"1 b -", "\xff\xff", true},
		{"1 - -", "-", true}, {"1 - -", "\xff", true}, {"0", "a", true},
		{"1 d b", "c", false}, {"1 d b", "b", false}, {"1 d b", "d", false}, {"1 b b", "b", false}, {"1 b b", "b0", false},
		{"1 - -", "*65", true}, {"1 j *65", "*64", true}, {"1 *64 *65", "*64", true}, {"1 *64 *65", "*65", false}, // longer than a key
	}
	for _, r := range rows {
		wantIs(t, "Covers("+r.r+"; "+r.key+")", Covers(of(r.r), key(r.key)), r.is)
	}
	wantIs(t, "Covers of nil", Covers(api.Region{}, nil), true)
}

func TestOverlap(t *testing.T) { // P10.1
	rows := []struct {
		a, b string
		is   bool
	}{
		{"1 a c", "2 b d", true}, {"1 a b", "2 b d", false}, {"1 a b", "2 c d", false}, {"1 a d", "2 b c", true}, {"1 a d", "2 a b", true},
		{"1 - -", "2 b d", true}, {"1 - -", "2 - -", true}, {"1 b -", "2 - b", false}, {"1 b -", "2 - c", true}, {"1 a -", "2 z -", true},
		{"1 - a", "2 - b", true}, {"1 a c", "1 a c", true},
		{"1 b a", "2 - -", false}, {"1 b b", "2 - -", false}, {"1 b b", "2 a c", false}, {"1 b b", "1 b b", false}, {"1 d a", "2 b c", false}, {"1 d a", "2 d -", false},
		{"1 a a0", "2 a -", true}, {"1 a0 b", "2 - a0", false},
	}
	for _, r := range rows {
		a, b := of(r.a), of(r.b)
		wantIs(t, "Overlap("+r.a+"; "+r.b+")", Overlap(a, b), r.is)
		wantIs(t, "Overlap("+r.b+"; "+r.a+")", Overlap(b, a), r.is)
	}
	no := []byte{0}
	wantIs(t, "the text of no byte alone in both", Overlap(api.Region{End: no}, api.Region{End: []byte{0, 0}}), true)
	wantIs(t, "a text between two neighbours", Overlap(api.Region{Start: no, End: []byte{0, 0}}, api.Region{Start: no}), true)
}

// Of texts over two bytes: whatever lies in two ranges, a Start or a text one letter longer than the ends would show it.
func TestRangesByTexts(t *testing.T) { // P10.1, P10.6
	ends, texts := words("\x00\xff", 2), words("\x00\xff", 4)
	l := spansOver(ends)
	for _, a := range l {
		for _, s := range texts {
			wantIs(t, "Covers of "+told(a), Covers(a, []byte(s)), lies(a, s))
		}
		for _, b := range l {
			both := false
			for _, s := range texts {
				both = both || lies(a, s) && lies(b, s)
			}
			wantIs(t, "Overlap of "+told(a)+" and "+told(b), Overlap(a, b), both)
		}
	}
}

func TestOn(t *testing.T) { // P10.2
	r := of("1 - - 1/1 4@3 7@1~ 9@2")
	for store, is := range map[int]api.Peer{1: {ID: 7, Store: 1, Learner: true}, 2: {ID: 9, Store: 2}, 3: {ID: 4, Store: 3}} {
		if p, ok := On(r, store); p != is || !ok {
			t.Errorf("On(%d): %v, %t; want %v", store, p, ok, is)
		}
	}
	for _, store := range []int{-1, 0, 4, 7, 1 << 62} {
		if p, ok := On(r, store); p != (api.Peer{}) || ok {
			t.Errorf("On(%d): %v, %t; want none", store, p, ok)
		}
	}
	if p, ok := On(api.Region{}, 0); p != (api.Peer{}) || ok {
		t.Errorf("On a region without peers: %v, %t", p, ok)
	}
}

func TestFind(t *testing.T) { // P10.6
	rows := []struct {
		l, key string
		at     int
	}{
		{"1 - b; 2 b d; 3 d -", "-", 0}, {"1 - b; 2 b d; 3 d -", "a", 0}, {"1 - b; 2 b d; 3 d -", "b", 1}, {"1 - b; 2 b d; 3 d -", "d", 2}, {"1 - b; 2 b d; 3 d -", "z", 2},
		{"3 d -; 2 b d; 1 - b", "d", 0}, {"3 d -; 2 b d; 1 - b", "a", 2}, // as they lie, not by Start
		{"1 a c; 2 b d", "b", 0}, {"2 b d; 1 a c", "b", 0}, {"1 - -; 1 - -", "x", 0}, // the least one
		{"2 b d", "a", -1}, {"2 b d", "d", -1}, {"2 b d", "-", -1}, {"1 - b; 3 c -", "b", -1}, {"2 d b", "c", -1}, {"2 d b; 1 - -", "c", 1},
		{"", "a", -1}, {"", "-", -1},
		{"1 - -", "*65", 0},
	}
	for _, r := range rows {
		if at := Find(all(r.l), key(r.key)); at != r.at {
			t.Errorf("Find(%s, %s): %d; want %d", r.l, r.key, at, r.at)
		}
	}
}

func TestPartition(t *testing.T) { // P10.6
	yes := []string{
		"1 - -", "1 - m; 7 m -", "7 m -; 1 - m", "3 d -; 1 - b; 2 b d", "1 - b; 1 b -", // the numbers do not count
		"1 - a; 2 a a0; 3 a0 b; 4 b -", "1 - *65; 2 *65 -",
		"1 - m; 2 m m; 7 m -", "2 m m; 7 m -; 1 - m", "7 m -; 1 - m; 2 m m", "1 - -; 2 b a", "2 c c; 1 - -", // where nothing lies
	}
	no := []string{
		"", "1 - m", "7 m -", "1 a b", // not all
		"1 - -; 2 - -", "1 - m; 2 m -; 2 m -", "1 - m; 1 - m; 2 m -", "1 - -; 2 m -", "1 - -; 2 - m", "2 m n; 1 - -", // some twice
		"1 - m; 2 n -", "1 - m; 2 m0 -", "1 - b; 2 b c; 3 d -", // a gap
		"1 - n; 2 m -", "1 - c; 2 b d; 3 d -", "1 - b; 2 b -; 3 c -", "1 - b; 2 b d; 3 b d; 4 d -", // both
		"1 - b; 2 b d", "2 b d; 3 d -",
		"1 b a", "1 b b", "1 b a; 2 c c", "1 - m; 2 m m", "2 m m; 7 m -", "1 - b; 2 d b; 3 d -",
	}
	for _, s := range yes {
		wantIs(t, "Partition("+s+")", Partition(all(s)), true)
	}
	for _, s := range no {
		wantIs(t, "Partition("+s+")", Partition(all(s)), false)
	}
}

func TestPartitionByTexts(t *testing.T) { // P10.6: up to three regions of each kind, in each order
	texts := words("ab", 3)
	l := spansOver([]string{"", "a", "ab", "b"})
	found := 0
	look := func(l ...api.Region) {
		once := true
		for _, s := range texts {
			once = once && counted(l, s) == 1
		}
		if once {
			found++
		}
		if Partition(l) != once {
			t.Errorf("Partition of %v: %t", l, !once)
		}
	}
	for _, a := range l {
		look(a)
		for _, b := range l {
			look(a, b)
			for _, c := range l {
				look(a, b, c)
			}
		}
	}
	if found < 100 {
		t.Errorf("only %d of them were partitions", found)
	}
}
