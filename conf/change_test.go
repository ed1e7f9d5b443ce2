package conf

import (
	"math"
	"math/rand/v2"
	"slices"
	"testing"

	"regatta/api"
)

func TestEnter(t *testing.T) { // P7.2
	rows := [][3]string{
		{"1 2 3", "", "1 2 3"},
		{"1 2 3 | | 4", "", "1 2 3 | | 4"},
		{"1 2 3", "+4", "1 2 3 4 | 1 2 3"},
		{"2 3 4", "+1", "1 2 3 4 | 2 3 4"},
		{"1 2 3", "-2", "1 3 | 1 2 3"},
		{"1", "+2 -1", "2 | 1"},
		{"1", "-1 +2", "2 | 1"}, // in between nobody votes: only what comes of it all counts
		{"1 2 3", "+4 -1", "2 3 4 | 1 2 3"},
		{"1 2 3 | | 4", "+4", "1 2 3 4 | 1 2 3"}, // a voter is no learner any more
		{"1 2 3 | | 4 5", "+4 -5", "1 2 3 4 | 1 2 3"},
		{"1 2 3 | | 4", "-4", "1 2 3"},
		{"1 2 3 | | 4 5 6", "-5", "1 2 3 | | 4 6"},
		{"1 2 3 | | 5", "~4", "1 2 3 | | 4 5"},
		{"1 2 3 | | 4", "~4", "1 2 3 | | 4"},
		{"1 2 3", "+3", "1 2 3"}, // the voters are the same
		{"1 2 3", "-9", "1 2 3"},
		{"1 2 3", "+4 -4", "1 2 3"},
		{"1 2 3", "-3 +3", "1 2 3"},
		{"1 2 3", "+4 -4 ~4", "1 2 3 | | 4"},
		{"1 2 3", "~4 +4", "1 2 3 4 | 1 2 3"},
		{"1 2 3", "~4 -4", "1 2 3"},
		{"1 2 3", "-2 ~2 +2", "1 2 3"},
		{"1 2 3", "-2 +9 ~7 +8", "1 3 8 9 | 1 2 3 | 7"},
		{"1 2 3 4", "+5 +6 +7 +8 +9", "1 2 3 4 5 6 7 8 9 | 1 2 3 4"},
		{"1 2 3 4 5", "-1 -2 -3 -4 -5 +6 +7 +8 +9", "6 7 8 9 | 1 2 3 4 5"},
		{"1 2 3 4 5 6 7 8 | | 9", "+9", "1 2 3 4 5 6 7 8 9 | 1 2 3 4 5 6 7 8"},
		{"1 2 3 4 5 6 7 8 | | 9", "-9 ~10", "1 2 3 4 5 6 7 8 | | 10"},
		{"1 2 3 4 5 6 7 8 9", "+10 -10", "1 2 3 4 5 6 7 8 9"}, // in between there are too many
		{"1", "+18446744073709551615", "1 18446744073709551615 | 1"},
	}
	for _, r := range rows {
		c, e := Enter(of(r[0]), changes(r[1]))
		wantConf(t, "Enter("+r[0]+"; "+r[1]+")", c, e, r[2])
	}
}

func TestEnterRefused(t *testing.T) { // P7.2
	rows := []struct {
		c, l string
		e    api.Errno
	}{
		{"", "+1", api.ErrConf}, {"2 1", "+3", api.ErrConf}, {"0 1", "", api.ErrConf}, {"1 | | 1", "", api.ErrConf},
		{"2 1 | 1", "", api.ErrConf}, {"| 1", "", api.ErrConf}, // Check is ahead of joint
		{"1 | 2", "", api.ErrJoint}, {"1 | 1", "", api.ErrJoint}, {"1 | 2", "+3", api.ErrJoint}, {"1 | 2 | 3", "-3", api.ErrJoint},
		{"1 | 2", "+0", api.ErrJoint}, {"1 | 2", "?3", api.ErrJoint}, {"1 | 2", "~1", api.ErrJoint}, // joint is ahead of the changes
		{"1 2 3", "~3", api.ErrConf}, {"1 2 3", "+4 ~4", api.ErrConf}, {"1 2 3", "~3 -3", api.ErrConf},
		{"1 2 3", "+0", api.ErrConf}, {"1 2 3", "~0", api.ErrConf}, {"1 2 3", "-0", api.ErrConf}, {"1 2 3", "+4 -0", api.ErrConf},
		{"1 2 3", "?4", api.ErrConf}, {"1 2 3", "?4 +4", api.ErrConf}, {"1 2 3", "+4 ?4", api.ErrConf}, {"1 2 3", "?0", api.ErrConf},
		{"1", "-1", api.ErrConf}, {"1 2 | | 3", "-1 -2", api.ErrConf}, // nobody votes any more
		{"1 2", "-2 ~2", api.ErrConf},                                                                                                      // it would learn, and vote in Old
		{"1 2 3 4 5 6 7 8 9", "+10", api.ErrConf}, {"1 2 3 4 5 6 7 8 9", "~10", api.ErrConf}, {"1 2 3 4 5 6 7 8 9", "-1 +10", api.ErrConf}, // Old's count, too
		{"1 2 3 4 5 6 7 8 9", "-1 ~10", api.ErrConf}, {"1 2 3 4 5 6 7 8 | | 9", "+10", api.ErrConf},
	}
	for _, r := range rows {
		c, e := Enter(of(r.c), changes(r.l))
		wantNone(t, "Enter("+r.c+"; "+r.l+")", c, e, r.e)
	}
	for _, kind := range []int{0, -1, 4, math.MinInt, math.MaxInt, 1<<32 + 1} {
		c, e := Enter(of("1 2 3"), []api.Change{{Kind: kind, Peer: 4}})
		wantNone(t, "Enter of a kind that is none", c, e, api.ErrConf)
	}
}

func TestEnterOfMany(t *testing.T) { // P7.2, R1: there is no limit to what comes and goes in between
	var l []api.Change
	for n := uint64(1 << 17); n >= 1; n-- {
		l = append(l, api.Change{Kind: api.ChangeVoter, Peer: n})
	}
	c, e := Enter(of("1 2"), l)
	wantNone(t, "Enter of very many voters", c, e, api.ErrConf)
	for n := uint64(4); n <= 1<<17; n++ {
		l = append(l, api.Change{Kind: api.ChangeRemove, Peer: n})
	}
	c, e = Enter(of("1 2"), l)
	wantConf(t, "Enter of very many changes", c, e, "1 2 3 | 1 2")
}

func TestLeave(t *testing.T) { // P7.2
	rows := [][2]string{{"2 3 4 | 1 2 3", "2 3 4"}, {"2 3 4 | 1 2 3 | 7 9", "2 3 4 | | 7 9"}, {"1 | 1", "1"}, {"1 | 2 | 3", "1 | | 3"}}
	for _, r := range rows {
		c, e := Leave(of(r[0]))
		wantConf(t, "Leave("+r[0]+")", c, e, r[1])
	}
	for _, s := range []string{"1", "1 2 3", "1 | | 2"} {
		c, e := Leave(of(s))
		wantNone(t, "Leave("+s+")", c, e, api.ErrJoint)
	}
	for _, s := range []string{"", "| 1", "2 1", "2 1 | 1", "1 | 0", "1 | 2 | 2", "1 2 3 4 5 6 7 8 9 | 10"} {
		c, e := Leave(of(s))
		wantNone(t, "Leave("+s+")", c, e, api.ErrConf)
	}
}

// plainEnter does the changes to two lists that are in no order.
func plainEnter(c api.Conf, l []api.Change) (api.Conf, api.Errno) {
	if Check(c) != api.OK {
		return api.Conf{}, api.ErrConf
	}
	if len(c.Old) > 0 {
		return api.Conf{}, api.ErrJoint
	}
	voters, learners := slices.Clone(c.Voters), slices.Clone(c.Learners)
	for _, x := range l {
		same := func(n uint64) bool { return n == x.Peer }
		votes := slices.Contains(voters, x.Peer)
		if x.Peer == 0 || x.Kind < 1 || x.Kind > 3 || x.Kind == api.ChangeLearner && votes {
			return api.Conf{}, api.ErrConf
		}
		voters, learners = slices.DeleteFunc(voters, same), slices.DeleteFunc(learners, same)
		switch x.Kind {
		case api.ChangeVoter:
			voters = append(voters, x.Peer)
		case api.ChangeLearner:
			learners = append(learners, x.Peer)
		}
	}
	slices.Sort(voters)
	slices.Sort(learners)
	next := api.Conf{Voters: voters, Learners: learners}
	if toldList(voters) != toldList(c.Voters) {
		next.Old = slices.Clone(c.Voters)
	}
	if Check(next) != api.OK {
		return api.Conf{}, api.ErrConf
	}
	return next, api.OK
}

// someChanges are a few changes of peers up to peers + 1, now and then a wrong one among them.
func someChanges(r *rand.Rand, peers int) []api.Change {
	var l []api.Change
	for range r.IntN(6) {
		x := api.Change{Kind: 1 + r.IntN(3), Peer: 1 + uint64(r.IntN(peers+1))}
		switch r.IntN(60) {
		case 0:
			x.Kind = 4 * r.IntN(2)
		case 1:
			x.Peer = 0
		}
		l = append(l, x)
	}
	return l
}

func TestEnterAgainstThePlainOne(t *testing.T) { // P7.2
	r := rand.New(rand.NewPCG(7, 2))
	confs := append(all(4), of(""), of("2 1"), of("1 2 3 4 5 6 7 8"), of("1 2 3 4 | | 5 6 7 8 9"))
	entered, refused := 0, 0
	for run := range 60000 {
		c := confs[run%len(confs)]
		l := someChanges(r, 10)
		got, e := Enter(c, l)
		next, err := plainEnter(c, l)
		if e != err || told(got) != told(next) {
			t.Fatalf("Enter%s %v: %s, error %d; want %s, error %d", told(c), l, told(got), e, told(next), err)
		}
		if e == api.OK {
			entered++
		} else if e == api.ErrConf {
			refused++
		}
	}
	if entered < 1000 || refused < 1000 {
		t.Errorf("%d are entered and %d refused: the changes are chosen badly", entered, refused)
	}
}
