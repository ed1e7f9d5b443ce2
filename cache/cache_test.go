package cache

import (
	"math"
	"testing"

	"regatta/api"
)

func TestExamples(t *testing.T) {
	c := New()
	put(t, c, "2 - - 1/1=1", true)
	wantFind(t, c, "x", "2=1")
	put(t, c, "2 - m 1/2=0", true)
	wantFind(t, c, "x", "none")
	put(t, c, "2 - - 1/1=1", false)
	put(t, c, "7 m - 1/2=3", true)
	wantGroup(t, c, "a b x", "a b | x")
	for i := range 3 {
		if got := c.Next(7); got != i+1 {
			t.Errorf("Next, time %d: %d; want %d", i+1, got, i+1)
		}
	}
}

func TestEmpty(t *testing.T) { // of nothing that is remembered
	c := New()
	wantAll(t, c)
	wantFind(t, c, "-", "none")
	wantFind(t, c, "a", "none")
	wantGroup(t, c, "a b", "a | b")
	wantIs(t, "Lead", c.Lead(0, 0), false)
	wantIs(t, "Drop", c.Drop(0), false)
	if c.Next(0) != 0 {
		t.Errorf("Next of nothing: %d", c.Next(0))
	}
}

func TestPutRefused(t *testing.T) { // P19.1: region.Check
	for _, s := range []string{
		"0 a b 9/9=1", "3 b b 9/9=1", "3 c b 9/9=1", "3 a *65 9/9=1", "3 *65 - 9/9=1",
		"3 a b 9/9 1@1~=1", "3 a b 9/9 1@0=1", "3 a b 9/9 1@1 2@1=1", "3 a b 9/9 2@1 1@2=1", "3 a b 9/9 0@1=1",
	} {
		put(t, with(t, "2 a z 1/1=1"), s, false)
		put(t, New(), s, false)
	}
	wantIs(t, "Put of none", New().Put(api.Region{}, 1), false)
	wantIs(t, "Put without peers", New().Put(api.Region{ID: 3}, 1), false)
	put(t, New(), "3 a *64 9/9=1", true)
}

func TestPutOfOne(t *testing.T) { // P19.1: what is remembered of the same number
	rows := []struct {
		now string
		is  bool
	}{
		{"2 a m 1/1=2", true},  // the same once more
		{"2 a m 5/5=2", true},  // newer
		{"2 x z 5/6=2", true},  // elsewhere
		{"2 a m 6/5=2", true},  //
		{"2 a m 0/6=2", true},  // Version counts ahead of Conf
		{"2 a m 4/5=2", false}, //
		{"2 a m 9/4=2", false}, //
		{"2 x z 9/4=2", false}, // wherever it lies
		{"2 x z 4/5=2", false}, //
		{"2 x z 5/5=2", true},  //
	}
	for i, x := range rows {
		was := "2 a m 5/5=1"
		if i == 0 {
			was = "2 a m 1/1=1"
		}
		c := with(t, was, "3 p q 1/1=1")
		put(t, c, x.now, x.is)
		if l := c.All(); x.is && told(l[0]) != told(of(x.now[:len(x.now)-2])) && told(l[1]) != told(of(x.now[:len(x.now)-2])) {
			t.Errorf("Put(%s), then All: %v", x.now, l)
		}
		if len(c.All()) != 2 {
			t.Errorf("Put(%s), then All: %v", x.now, c.All())
		}
	}
}

func TestPutOver(t *testing.T) { // P19.1: what is remembered of other numbers
	rows := []struct {
		now string
		is  bool
		all []uint64
	}{
		{"9 - b 1/1=1", true, []uint64{9, 2, 3, 4}},     // up to where another begins
		{"9 z - 1/1=1", true, []uint64{2, 3, 4, 9}},     // from where one ends on
		{"9 d f 1/1=1", true, []uint64{2, 9, 3, 4}},     // just between
		{"9 d f0 1/5=1", true, []uint64{2, 9, 4}},       // a Version as great as the other's
		{"9 d f0 1/4=1", false, nil},                    //
		{"9 d f0 9/4=1", false, nil},                    // whatever Conf is
		{"9 d f0 0/5=1", true, []uint64{2, 9, 4}},       //
		{"9 c e 1/3=1", true, []uint64{9, 3, 4}},        //
		{"9 c e 1/2=1", false, nil},                     //
		{"9 c g 1/4=1", false, nil},                     // one of two is later
		{"9 c g 1/5=1", true, []uint64{9, 4}},           // both of them go
		{"9 - - 1/5=1", true, []uint64{9}},              // all
		{"9 - - 1/4=1", false, nil},                     //
		{"9 bb bc 1/3=1", true, []uint64{9, 3, 4}},      // within one, of which nothing stays
		{"4 b d 9/2=1", false, nil},                     // newer than its own, but old where it would lie
		{"4 b d 1/3=1", true, []uint64{4, 3}},           // its own one goes from where it was
		{"2 c h 1/5=1", true, []uint64{2, 4}},           //
		{"9 *63 *64 1/1=1", true, []uint64{2, 3, 4, 9}}, // an edge of keys' length
	}
	for _, x := range rows {
		c := with(t, "2 b d 5/3=1", "3 f h 5/5=2", "4 h j 5/1=3")
		put(t, c, x.now, x.is)
		if x.is {
			wantAll(t, c, x.all...)
			continue
		}
		wantAll(t, c, 2, 3, 4)
	}
}

func TestPutLeader(t *testing.T) { // P19.1: who leads
	rows := []struct {
		was, now, is string
	}{
		{"2 a m 1/1=1", "2 a m 1/1=0", "2=1"},                // the same Epoch: it keeps its leader
		{"2 a m 1/1=1", "2 a m 1/1=3", "2=3"},                //
		{"2 a m 1/1=1", "2 a m 1/1=4", "2=1"},                // a learner is no leader
		{"2 a m 1/1=1", "2 a m 1/1=5", "2=1"},                //
		{"2 a m 1/1=1", "2 a m 1/1=-1", "2=1"},               //
		{"2 a m 1/1=0", "2 a m 1/1=0", "2=0"},                //
		{"2 a m 1/1=1", "2 a m 2/1=0", "2=0"},                // another Epoch
		{"2 a m 1/1=1", "2 a m 1/2=0", "2=0"},                //
		{"2 a m 1/1=1", "2 a m 1/2=4", "2=0"},                //
		{"2 a m 1/1=1", "2 a m 1/2=9", "2=0"},                //
		{"2 a m 1/1=1", "2 a m 1/2=-1", "2=0"},               //
		{"2 a m 1/1=1", "2 a m 1/2=2", "2=2"},                //
		{"2 a m 1/1=1", "3 a m 1/1=0", "3=0"},                // another number
		{"2 a m 1/1=1", "2 a m 1/1 1@1~ 2@2=0", "2=0"},       // who would stay votes no more
		{"2 a m 1/1=1", "2 a m 1/1 1@3 2@2=0", "2=0"},        // or is not there
		{"2 a m 1/1=1", "2 a m 1/1 5@7 9@1=0", "2=1"},        // stores count, not the peers' numbers
		{"2 a m 1/1 7@5=5", "2 a m 1/1 7@5=7", "2=5"},        //
		{"3 n o 1/1=1", "2 a m 1/1 7@5 8@9~=5", "2=5"},       //
		{"3 n o 1/1=1", "2 a m 1/1 7@5 8@9~=9", "2=0"},       //
		{"3 n o 1/1=1", "2 a m 1/1 7@5 8@9~=0", "2=0"},       //
		{"2 n o 1/1=2", "2 a m 1/1=0", "2=2"},                // wherever it was
		{"3 n o 1/1=1", "2 a m 1/1 8@9~ 9@100=100", "2=100"}, // a store of any number
	}
	for _, x := range rows {
		c := with(t, x.was)
		put(t, c, x.now, true)
		wantFind(t, c, "b", x.is)
	}
}

func TestFind(t *testing.T) { // P19.2
	c := with(t, "4 h - 1/1=3", "2 b d 1/1=1", "3 d f 1/1=0")
	rows := []struct{ key, is string }{
		{"-", "none"}, {"a", "none"}, {"azz", "none"}, {"b", "2=1"}, {"c", "2=1"}, {"czz", "2=1"}, {"d", "3=0"}, {"ezz", "3=0"},
		{"f", "none"}, {"g", "none"}, {"gzz", "none"}, {"h", "4=3"}, {"z", "4=3"}, {"*100", "4=3"},
	}
	for _, x := range rows {
		wantFind(t, c, x.key, x.is)
	}
	r, _, _ := c.Find([]byte("c"))
	if told(r) != told(of("2 b d 1/1")) {
		t.Errorf("Find(c): %s", told(r))
	}
	put(t, c, "5 - b 1/1=2", true)
	wantFind(t, c, "-", "5=2")
	wantFind(t, c, "azz", "5=2")
}

func TestLead(t *testing.T) { // P19.2
	c := with(t, "2 - m 1/1=1", "7 m - 1/1 1@5 2@9~ 3@7=0")
	rows := []struct {
		id    uint64
		store int
		is    bool
	}{
		{2, 2, true}, {2, 2, true}, {2, 4, false}, {2, 5, false}, {2, 0, false}, {2, -1, false}, {2, math.MinInt, false},
		{7, 7, true}, {7, 9, false}, {7, 3, false}, {7, 1, false}, {7, 5, true}, {3, 1, false}, {0, 1, false}, {math.MaxUint64, 1, false},
	}
	for _, x := range rows {
		was := all(c)
		wantIs(t, "Lead", c.Lead(x.id, x.store), x.is)
		if !x.is && all(c) != was {
			t.Errorf("Lead(%d, %d) was refused and has changed\n%sto\n%s", x.id, x.store, was, all(c))
		}
	}
	wantFind(t, c, "a", "2=2")
	wantFind(t, c, "x", "7=5")
}

func TestNext(t *testing.T) { // P19.2
	c := with(t, "2 - k 1/1=0", "7 m - 1/1 1@5 2@9~ 3@7 6@1 8@2~=7", "9 k kk 1/1 4@3=0")
	rows := []struct {
		id uint64
		is []int
	}{
		{9, []int{3, 3, 3}},       // one alone
		{2, []int{1, 2, 3, 1}},    // the first one, if nobody is known
		{7, []int{1, 5, 7, 1, 5}}, // learners are passed over
		{8, []int{0, 0}},
		{0, []int{0}},
	}
	for _, x := range rows {
		for i, is := range x.is {
			if got := c.Next(x.id); got != is {
				t.Errorf("Next(%d), time %d: %d; want %d", x.id, i+1, got, is)
			}
			if is > 0 {
				leaderOf(t, c, x.id, is)
			}
		}
	}
	c.Lead(7, 7)
	if got := c.Next(7); got != 1 {
		t.Errorf("Next behind Lead: %d; want 1", got)
	}
}

// leaderOf: that store is told as the region's leader.
func leaderOf(t *testing.T, c *Cache, id uint64, is int) {
	t.Helper()
	for _, r := range c.All() {
		if r.ID != id {
			continue
		}
		if _, got, _ := c.Find(r.Start); got != is {
			t.Errorf("the leader of %d: %d; want %d", id, got, is)
		}
		return
	}
	t.Errorf("%d is not remembered", id)
}

func TestDrop(t *testing.T) { // P19.2
	c := with(t, "4 h - 9/9=3", "2 b d 1/1=1", "3 d f 1/1=0")
	wantAll(t, c, 2, 3, 4)
	wantIs(t, "Drop(5)", c.Drop(5), false)
	wantIs(t, "Drop(3)", c.Drop(3), true)
	wantIs(t, "Drop(3) again", c.Drop(3), false)
	wantAll(t, c, 2, 4)
	wantFind(t, c, "d", "none")
	wantFind(t, c, "c", "2=1")
	wantFind(t, c, "h", "4=3")
	wantIs(t, "Drop(4)", c.Drop(4), true)
	put(t, c, "4 a z 1/1=0", true) // what was dropped is forgotten, its Epoch and its leader
	wantFind(t, c, "c", "4=0")
	wantAll(t, c, 4)
}

func TestGroup(t *testing.T) { // P19.3
	c := with(t, "2 b d 1/1=1", "3 d f 1/1=0", "4 h - 1/1=2")
	rows := []struct{ keys, is string }{
		{"", ""}, {"a", "a"}, {"b", "b"}, {"b c", "b c"}, {"c e", "c | e"}, {"c d", "c | d"},
		{"a aa", "a | aa"}, {"a aa b c d e f g h z", "a | aa | b c | d e | f | g | h z"}, {"e f h", "e | f | h"},
		{"- b", " | b"}, {"b bb bbb c cc", "b bb bbb c cc"}, {"h *100 z", "h " + string(key("*100")) + " z"},
		{"b a", ""}, {"b b", ""}, {"a b c b", ""}, {"bb b", ""}, {"- -", ""}, {"b c d c", ""}, {"x y a", ""},
	}
	for _, x := range rows {
		wantGroup(t, c, x.keys, x.is)
	}
	wantGroup(t, with(t, "2 - - 1/1=1"), "- a b *65", " a b "+string(key("*65")))
}
