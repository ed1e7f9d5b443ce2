package region

import (
	"slices"
	"testing"

	"regatta/api"
	"regatta/conf"
)

func TestSplit(t *testing.T) { // P10.3
	rows := []struct {
		r, key string
		id     uint64
		peers  string
		a, b   string
	}{
		{"1 - - 1/1 1@1 2@2 3@3", "m", 7, "4 5 6", "1 - m 1/2 1@1 2@2 3@3", "7 m - 1/2 4@1 5@2 6@3"},
		{"9 a z 5/8 2@3 4@1~ 6@2", "b", 3, "1 2 9", "9 a b 5/9 2@3 4@1~ 6@2", "3 b z 5/9 1@3 2@1~ 9@2"},
		{"1 - m 0/0 1@1", "l", top, "1", "1 - l 0/1 1@1", "18446744073709551615 l m 0/1 1@1"}, // whose numbers are taken is not asked
		{"1 a aa 1/1 1@1", "a0", 2, "18446744073709551615", "1 a a0 1/2 1@1", "2 a0 aa 1/2 18446744073709551615@1"},
		{"1 a - 1/18446744073709551614 1@1", "*64", 2, "2", "1 a *64 1/18446744073709551615 1@1", "2 *64 - 1/18446744073709551615 2@1"},
		{"1 *63 - 18446744073709551615/1 1@1", "*64", 2, "2", "1 *63 *64 18446744073709551615/2 1@1", "2 *64 - 18446744073709551615/2 2@1"},
	}
	for _, x := range rows {
		what := "Split(" + x.r + "; " + x.key + ")"
		a, b, e := Split(of(x.r), key(x.key), x.id, list(x.peers))
		wantRegion(t, what+", the first", a, e, x.a)
		wantRegion(t, what+", the second", b, e, x.b)
	}
}

func TestSplitRefused(t *testing.T) { // P10.3
	rows := []struct {
		r, key string
		id     uint64
		peers  string
		e      api.Errno
	}{
		{"0 - - 1/1 1@1", "m", 7, "4", api.ErrArg},                    // Check's
		{"1 m a 1/1 1@1", "m", 7, "4", api.ErrRange},                  // Check's
		{"1 m m 1/1 1@1", "m", 7, "4", api.ErrRange},                  // Check's
		{"1 a m 1/1 1@1~", "m", 7, "4", api.ErrArg},                   // Check's, ahead of the key's
		{"1 a m 1/1", "m", 7, "", api.ErrArg},                         // Check's
		{"1 b d 1/1 1@1", "a", 7, "4", api.ErrRange},                  // not in it
		{"1 b d 1/1 1@1", "d", 7, "4", api.ErrRange},                  // its End
		{"1 b d 1/1 1@1", "e", 7, "4", api.ErrRange},                  //
		{"1 b d 1/1 1@1", "b", 7, "4", api.ErrRange},                  // its Start
		{"1 b d 1/1 1@1", "-", 7, "4", api.ErrRange},                  //
		{"1 - d 1/1 1@1", "-", 7, "4", api.ErrRange},                  // its Start
		{"1 b d 1/1 1@1", "*65", 0, "", api.ErrRange},                 // ahead of all that is wrong with the rest
		{"1 b d 1/1 1@1", "b", 1, "0", api.ErrRange},                  //
		{"1 - - 1/1 1@1", "*65", 7, "4", api.ErrArg},                  //
		{"1 k - 1/1 1@1", "*65", 7, "4", api.ErrArg},                  //
		{"1 - - 1/1 1@1", "m", 0, "4", api.ErrArg},                    //
		{"1 - - 1/1 1@1", "m", 1, "4", api.ErrArg},                    // its own number
		{"1 - - 1/1 1@1 2@2", "m", 7, "4", api.ErrArg},                // too few
		{"1 - - 1/1 1@1 2@2", "m", 7, "4 5 6", api.ErrArg},            // too many
		{"1 - - 1/1 1@1 2@2", "m", 7, "", api.ErrArg},                 //
		{"1 - - 1/1 1@1 2@2", "m", 7, "0 4", api.ErrArg},              //
		{"1 - - 1/1 1@1 2@2", "m", 7, "4 4", api.ErrArg},              //
		{"1 - - 1/1 1@1 2@2 3@3", "m", 7, "4 6 5", api.ErrArg},        //
		{"1 - - 1/1 1@1 2@2 3@3", "m", 7, "4 5 0", api.ErrArg},        //
		{"1 - - 1/18446744073709551615 1@1", "m", 7, "4", api.ErrArg}, // no Version is above
	}
	for _, x := range rows {
		what := "Split(" + x.r + "; " + x.key + "; " + x.peers + ")"
		a, b, e := Split(of(x.r), key(x.key), x.id, list(x.peers))
		wantNone(t, what, a, e, x.e)
		wantNone(t, what, b, e, x.e)
	}
	r := of("1 b d 1/1 1@1")
	if _, _, e := Split(r, nil, 7, list("4")); e != api.ErrRange {
		t.Errorf("Split at nil: error %d", e)
	}
}

func TestMerge(t *testing.T) { // P10.4
	rows := [][3]string{
		{"1 - m 1/2 1@1 2@2 3@3", "7 m - 1/2 4@1 5@2 6@3", "1 - - 1/3 1@1 2@2 3@3"},
		{"7 m - 1/2 4@1 5@2 6@3", "1 - m 1/2 1@1 2@2 3@3", "7 - - 1/3 4@1 5@2 6@3"},
		{"1 a c 3/4 1@1 2@2~", "2 c f 9/8 3@2~ 4@1", "1 a f 3/9 1@1 2@2~"}, // the greater Version, the target's Conf; the stores in another order
		{"2 c f 9/8 3@2~ 4@1", "1 a c 3/4 1@1 2@2~", "2 a f 9/9 3@2~ 4@1"},
		{"1 a c 0/0 1@1", "2 c f 0/0 1@1", "1 a f 0/1 1@1"},
		{"1 - *64 1/1 1@1", "2 *64 - 1/1 2@1", "1 - - 1/2 1@1"},
		{"1 - a 1/18446744073709551614 1@1", "2 a b 1/1 2@1", "1 - b 1/18446744073709551615 1@1"},
		{"1 - a 18446744073709551615/1 1@1", "2 a b 0/18446744073709551614 2@1", "1 - b 18446744073709551615/18446744073709551615 1@1"},
		{"1 - a 1/1 1@1 2@2 3@3 4@4 5@5 6@6 7@7 8@8 9@9", "2 a b 1/1 1@9 2@8 3@7 4@6 5@5 6@4 7@3 8@2 9@1", "1 - b 1/2 1@1 2@2 3@3 4@4 5@5 6@6 7@7 8@8 9@9"},
	}
	for _, x := range rows {
		r, e := Merge(of(x[0]), of(x[1]))
		wantRegion(t, "Merge("+x[0]+"; "+x[1]+")", r, e, x[2])
	}
}

func TestMergeRefused(t *testing.T) { // P10.4
	rows := []struct {
		target, source string
		e              api.Errno
	}{
		{"0 - m 1/1 1@1", "2 b a 1/1 2@1", api.ErrArg},   // Check's, the target's ahead of the source's
		{"1 b a 1/1 1@1", "0 m - 1/1 2@1", api.ErrRange}, //
		{"1 - m 1/1 1@1", "2 b a 1/1 2@1", api.ErrRange},
		{"1 - m 1/1 1@1", "0 m - 1/1 2@1", api.ErrArg},
		{"1 - m 1/1 1@1", "2 m - 1/1 2@1~", api.ErrArg},
		{"1 - m 1/1", "2 m - 1/1 2@1", api.ErrArg},
		{"1 m m 1/1 1@1", "2 m - 1/1 2@1", api.ErrRange},
		{"1 - m 1/1 1@1", "1 b a 1/1 2@1", api.ErrRange}, // Check's ahead of the numbers'

		{"1 - m 1/1 1@1", "1 m - 1/1 2@1", api.ErrArg}, // one number
		{"1 - m 1/1 1@1", "1 n - 1/1 2@2", api.ErrArg}, // ahead of the ranges'

		{"1 - m 1/1 1@1", "2 n - 1/1 2@1", api.ErrRange}, // a gap
		{"2 n - 1/1 2@1", "1 - m 1/1 1@1", api.ErrRange},
		{"1 - m 1/1 1@1", "2 l - 1/1 2@1", api.ErrRange},
		{"1 - m 1/1 1@1", "2 - m 1/1 2@1", api.ErrRange},
		{"1 a - 1/1 1@1", "2 a - 1/1 2@1", api.ErrRange},
		{"1 - - 1/1 1@1", "2 - - 1/1 2@1", api.ErrRange}, // an End without a byte is no Start without one
		{"1 b - 1/1 1@1", "2 - a 1/1 2@1", api.ErrRange},
		{"2 - a 1/1 1@1", "1 b - 1/1 2@1", api.ErrRange},
		{"1 - m 1/1 1@1", "2 m0 - 1/1 2@1", api.ErrRange},
		{"1 - m 1/1 1@1", "2 n - 1/1 2@2", api.ErrRange}, // ahead of the stores'

		{"1 - m 1/1 1@1", "2 m - 1/1 2@2", api.ErrEpoch}, // other stores
		{"1 - m 1/1 1@1 3@2", "2 m - 1/1 2@1", api.ErrEpoch},
		{"1 - m 1/1 1@1", "2 m - 1/1 2@1 3@2", api.ErrEpoch},
		{"1 - m 1/1 1@1 3@2~", "2 m - 1/1 2@1 4@2", api.ErrEpoch}, // a learner
		{"1 - m 1/1 1@1 3@2", "2 m - 1/1 2@1 4@2~", api.ErrEpoch},
		{"1 - m 1/1 1@1 3@2~", "2 m - 1/1 2@1~ 4@2", api.ErrEpoch},
		{"1 - m 1/1 1@1 3@2", "2 m - 1/1 1@1 3@3", api.ErrEpoch},
		{"1 - m 1/18446744073709551615 1@1", "2 m - 1/1 2@2", api.ErrEpoch},

		{"1 - m 1/18446744073709551615 1@1", "2 m - 1/1 2@1", api.ErrArg}, // no Version is above
		{"1 - m 1/1 1@1", "2 m - 1/18446744073709551615 2@1", api.ErrArg},
	}
	for _, x := range rows {
		r, e := Merge(of(x.target), of(x.source))
		wantNone(t, "Merge("+x.target+"; "+x.source+")", r, e, x.e)
	}
}

func TestMembers(t *testing.T) { // P10.5
	rows := []struct{ r, c, places, is string }{
		{"1 - - 4/2 1@1 2@2", "1 9 | 1 2", "9@3~ 2@5", "1 - - 5/2 1@1 2@2 9@3"}, // who is in Old alone, is no learner; r's store counts ahead of that of places
		{"1 - - 4/2 1@1 2@2", "1 || 9", "9@3 2@5", "1 - - 5/2 1@1 9@3~"},
		{"7 a b 0/0 1@1 2@2 3@3", "1 2 3", "", "7 a b 1/0 1@1 2@2 3@3"},
		{"7 a b 0/0 1@1 2@2~ 3@3", "1 2 || 3", "", "7 a b 1/0 1@1 2@2 3@3~"}, // as c says, whatever it was
		{"7 a b 1/1 4@2", "2", "2@2 3@1", "7 a b 2/1 2@2"},
		{"7 a b 1/1 4@2", "4 | 4 | 2", "2@1", "7 a b 2/1 2@1~ 4@2"},
		{"7 a b 1/1 4@2", "3 | 4 | 1", "1@1 3@3", "7 a b 2/1 1@1~ 3@3 4@2"},
		{"7 a b 1/1 4@2", "4 5", "5@3 5@2", "7 a b 2/1 4@2 5@3"}, // named twice: the first one
		{"7 a b 1/1 4@2", "4 5", "5@3 6@0 0@0 7@2", "7 a b 2/1 4@2 5@3"},
		{"7 a b 1/1 4@2 5@2 4@3", "4", "", "7 a b 2/1 4@2"}, // r is not asked what it was, but for what is taken of it
		{"7 a b 1/1", "4", "4@2", "7 a b 2/1 4@2"},
		{"7 a b 18446744073709551614/1 4@2", "4", "", "7 a b 18446744073709551615/1 4@2"},
		{"7 a b 1/18446744073709551615 4@2", "4", "", "7 a b 2/18446744073709551615 4@2"},
		{"1 - - 1/1 1@1", "1 2 3 4 5 | 6 7 | 8 9", "2@2 3@3 4@4 5@5 6@6 7@7 8@8 9@9", "1 - - 2/1 1@1 2@2 3@3 4@4 5@5 6@6 7@7 8@8~ 9@9~"},
	}
	for _, x := range rows {
		r, e := Members(of(x.r), confOf(x.c), peers(x.places))
		wantRegion(t, "Members("+x.r+"; "+x.c+"; "+x.places+")", r, e, x.is)
	}
}

func TestMembersRefused(t *testing.T) { // P10.5: whatever is wrong, ErrArg
	rows := []struct{ r, c, places string }{
		{"1 - - 1/1 1@1", "", ""}, // no configuration
		{"1 - - 1/1 1@1", "| 1", ""},
		{"1 - - 1/1 1@1", "|| 1", ""},
		{"1 - - 1/1 1@1", "1 || 1", ""},
		{"1 - - 1/1 1@1 2@2", "2 1", ""},
		{"1 - - 1/1 1@1", "0 1", "0@2"},
		{"1 - - 1/1 1@1", "1 2 3 4 5 6 7 8 9 10", "2@2 3@3 4@4 5@5 6@6 7@7 8@8 9@9 10@10"},
		{"1 - - 1/1 1@1", "8", ""}, // no store
		{"1 - - 1/1 1@1", "1 8", "7@2"},
		{"1 - - 1/1 1@1", "1 | 8", "7@2"},
		{"1 - - 1/1 1@1", "1 || 8", "7@2"},
		{"1 - - 1/1 1@1", "1 7", "7@1"}, // two on one store
		{"1 - - 1/1 1@1", "2 || 7", "2@7 7@7"},
		{"1 - - 1/1 1@1", "1 7", "7@0"}, // what Check refuses
		{"1 - - 1/1 1@1", "1 7", "7@-3"},
		{"1 - - 1/1 1@1 7@0", "1 7", "7@2"},
		{"0 - - 1/1 1@1", "1", ""},
		{"1 b a 1/1 1@1", "1", ""}, // ErrArg here, though Check says ErrRange
		{"1 *65 - 1/1 1@1", "1", ""},
		{"1 - *65 1/1 1@1", "1", ""},
		{"1 - - 18446744073709551615/1 1@1", "1", ""}, // no Conf is above
	}
	for _, x := range rows {
		r, e := Members(of(x.r), confOf(x.c), peers(x.places))
		wantNone(t, "Members("+x.r+"; "+x.c+"; "+x.places+")", r, e, api.ErrArg)
	}
}

// A group goes from one set of stores to another one as it would: by a joint configuration, which is left.
func TestMembersOfAMove(t *testing.T) { // P10.5
	r := of("1 a m 1/7 1@1 2@2 3@3")
	c := confOf("1 2 3")
	steps := []struct {
		changes []api.Change
		places  string
		is      string
	}{
		{[]api.Change{{Kind: api.ChangeLearner, Peer: 4}}, "4@4", "1 a m 2/7 1@1 2@2 3@3 4@4~"},
		{[]api.Change{{Kind: api.ChangeVoter, Peer: 4}, {Kind: api.ChangeRemove, Peer: 1}}, "", "1 a m 3/7 1@1 2@2 3@3 4@4"},
		{nil, "", "1 a m 4/7 2@2 3@3 4@4"},
		{[]api.Change{{Kind: api.ChangeLearner, Peer: 5}}, "5@1", "1 a m 5/7 2@2 3@3 4@4 5@1~"}, // the store is free again
	}
	for i, s := range steps {
		var e api.Errno
		if s.changes == nil {
			c, e = conf.Leave(c)
		} else {
			c, e = conf.Enter(c, s.changes)
		}
		want(t, "the configuration", e, api.OK)
		r, e = Members(r, c, slices.Concat(peers("9@9"), peers(s.places)))
		wantRegion(t, "step "+string(rune('1'+i)), r, e, s.is)
	}
}
