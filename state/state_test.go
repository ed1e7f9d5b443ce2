package state

import (
	"bytes"
	"fmt"
	"math"
	"testing"

	"regatta/api"
)

const three = "1 - - 1/1 1@1 2@2 3@3"

func TestExamples(t *testing.T) {
	s := fresh(t, three)
	script(t, s, "prewrite :1/1 @5 a=1 -> ok at:6")
	r, o, e := s.Apply(1, of("prewrite :1/1 @5 a=1"))
	if e != api.ErrOrder || o != nil || told(r) != "ok" || s.Applied() != 1 {
		t.Errorf("Apply(1, ..) again: %s, %v, error %d, applied %d", told(r), o, e, s.Applied())
	}
	right := script(t, s, `
		prewrite :1/2 @5 a=1 -> epoch 1 [, ) 1/1: 1@1 2@2 3@3
		split :1/1 m #7 on:4,5,6 -> ok 7 [m, ) 1/2: 4@1 5@2 6@3
		get z 9 1/1 -> epoch 1 [, m) 1/2: 1@1 2@2 3@3
		prepare :1/2 #9 -> ok
		get a 1 1/2 -> frozen
		back #8 -> merge
		back #9 -> ok
		get a 1 1/2 -> none`)
	if s.Applied() != 6 {
		t.Errorf("Applied: %d", s.Applied())
	}
	wantText(t, "the right one", tells(right), "7 [m, ) 1/2: 4@1 5@2 6@3 frozen 0 held 0 swallowed [] places size 0 image 0/0")
}

// cell is a key with one write.
func cell(k string) api.Cell {
	return api.Cell{Key: key(k), Writes: []api.Write{{Kind: api.KindRollback, Commit: 1, Start: 1}}}
}

func imageOf(l ...string) api.Image {
	x := api.Image{Floor: 3, GC: 2}
	for _, k := range l {
		x.Cells = append(x.Cells, cell(k))
	}
	return x
}

func TestNew(t *testing.T) { // P13.1
	for _, r := range []string{three, "9 b m 0/0 1@1", "9 b m 7/9 4@9 5@1~", "top - a 5/top 1@2147483648 2@9223372036854775807~", "3 a *64 1/1 1@1"} {
		for _, x := range []api.Image{{}, {Floor: 1<<62 - 1, GC: 1<<62 - 1}, {Floor: 1, GC: 5}} {
			s, e := New(regionOf(r), x)
			if s == nil || e != api.OK {
				t.Fatalf("New(%s): error %d", r, e)
			}
			wantText(t, "New("+r+")", tells(s), toldRegion(regionOf(r))+" frozen 0 held 0 swallowed [] places size 0 image "+toldImage(x))
			if s.Applied() != 0 {
				t.Errorf("New(%s): applied %d", r, s.Applied())
			}
			copyOf(t, s)
		}
	}
	s, e := New(regionOf("9 b m 1/1 1@1"), imageOf("b", "b0", "l", "lzz"))
	want(t, "New with data", e, api.OK)
	wantText(t, "New with data", tells(s), "9 [b, m) 1/1: 1@1 frozen 0 held 0 swallowed [] places size 15 image 3/2 | b 5@1:1= | b0 5@1:1= | l 5@1:1= | lzz 5@1:1=")
}

func TestNewRefused(t *testing.T) { // P13.1: the region's error, the image's, ErrRange
	good, bad := imageOf("b"), api.Image{GC: 1 << 62}
	for _, r := range []struct {
		region string
		image  api.Image
		is     api.Errno
	}{
		{"0 b m 1/1 1@1", good, api.ErrArg}, {"9 b m 1/1", good, api.ErrArg}, {"9 b m 1/1 1@0", good, api.ErrArg}, {"9 b m 1/1 2@1 1@2", good, api.ErrArg},
		{"9 b m 1/1 1@1~", good, api.ErrArg}, {"9 b *65 1/1 1@1", good, api.ErrArg}, {"9 m b 1/1 1@1", good, api.ErrRange}, {"9 m b 1/1 1@1", bad, api.ErrRange}, {"9 m m 1/1 1@1", good, api.ErrRange},
		{"9 b m 1/1 1@1", bad, api.ErrArg}, {"9 b m 1/1 1@1", imageOf(""), api.ErrArg}, {"9 b m 1/1 1@1", imageOf("c", "b"), api.ErrArg}, {"9 b m 1/1 1@1", imageOf("a", "*65"), api.ErrArg},
		{"9 b m 1/1 1@1", imageOf("z", "c"), api.ErrArg}, {"9 b m 1/1 1@1", imageOf("a"), api.ErrRange}, {"9 b m 1/1 1@1", imageOf("b", "m"), api.ErrRange}, {"9 b m 1/1 1@1", imageOf("azz", "c"), api.ErrRange},
		{"9 b m 1/1 1@1", imageOf("b", "c", "z"), api.ErrRange}, {"9 b - 1/1 1@1", imageOf("a", "z"), api.ErrRange}, {"9 - b 1/1 1@1", imageOf("a", "b"), api.ErrRange},
	} {
		if s, e := New(regionOf(r.region), r.image); s != nil || e != r.is {
			t.Errorf("New(%s, %s): error %d; want %d", r.region, toldImage(r.image), e, r.is)
		}
	}
}

func TestIndexes(t *testing.T) { // P13.1: each entry's is above the one ahead
	steps := []func(*State, uint64) (api.Result, *State, api.Errno){
		func(s *State, i uint64) (api.Result, *State, api.Errno) { return api.Result{}, nil, s.Skip(i) },
		func(s *State, i uint64) (api.Result, *State, api.Errno) {
			return api.Result{}, nil, s.Conf(i, confOf("1,2,3"))
		},
		func(s *State, i uint64) (api.Result, *State, api.Errno) {
			return s.Apply(i, api.Cmd{Kind: api.CmdFloor, Commit: i % 1000, Epoch: s.Region().Epoch})
		},
	}
	late := append(steps, func(s *State, i uint64) (api.Result, *State, api.Errno) {
		return api.Result{}, nil, s.Conf(i, api.Conf{})
	})
	for _, c := range []string{"prewrite :9/9 @5 a=1", "prewrite @5 z=1", "99", "back #1", "split m #7 on:4,5,6", "prepare #3", "peers on:1@1"} {
		late = append(late, func(s *State, i uint64) (api.Result, *State, api.Errno) {
			x := of(c)
			x.Epoch = s.Region().Epoch
			return s.Apply(i, x)
		})
	}
	for k, step := range steps {
		s := fresh(t, three)
		for n, i := range []uint64{1, 2, 9, 1 << 40, math.MaxUint64 - 1, math.MaxUint64} {
			if _, _, e := step(s, i); e != api.OK || s.Applied() != i {
				t.Errorf("kind %d: the index %d: error %d, applied %d", k, i, e, s.Applied())
			}
			was := s.Export()
			for j, other := range late {
				for _, at := range []uint64{0, 1, i - 1, i} {
					r, o, e := other(s, at)
					if e != api.ErrOrder || told(r) != "ok" || o != nil || !bytes.Equal(s.Export(), was) {
						t.Errorf("kind %d, %d: the index %d behind %d: error %d, %s", j, n, at, i, e, told(r))
					}
				}
			}
		}
	}
	s := fresh(t, three)
	want(t, "Skip(0)", s.Skip(0), api.ErrOrder)
	want(t, "Skip(7)", s.Skip(7), api.OK)
	wantText(t, "what Skip changes", tells(s), tells(fresh(t, three)))
}

func TestConf(t *testing.T) { // P13.3
	s := fresh(t, "9 b m 1/5 1@1 2@2 3@3")
	script(t, s, `
		peers :1/5 on:4@4,2@9,5@1,6@5~ -> ok
		conf 1,2,3||4 -> ok
		region -> 9 [b, m) 2/5: 1@1 2@2 3@3 4@4~
		places -> 4@4 2@9 5@1 6@5~
		// The state's own store of a peer counts ahead of a place; who votes in Old alone is no learner.
		conf 1,2,4|1,2,3 -> ok
		region -> 9 [b, m) 3/5: 1@1 2@2 3@3 4@4
		conf 1,2,4 -> ok
		region -> 9 [b, m) 4/5: 1@1 2@2 4@4
		// Refused: no member, nowhere, two on one store, all learners, not rising.
		conf  -> arg
		conf 1,2,7 -> arg
		conf 1,2,3 -> arg
		conf 1,5 -> arg
		conf 2,1 -> arg
		conf 1||1 -> arg
		region -> 9 [b, m) 4/5: 1@1 2@2 4@4
		peers :4/5 -> ok
		places ->
		conf 1,6 -> arg
		conf 1,2,4 -> ok
		region -> 9 [b, m) 5/5: 1@1 2@2 4@4`)
	if s.Applied() != 13 {
		t.Errorf("Applied: %d", s.Applied())
	}
	s = fresh(t, "9 - - top/5 1@1")
	want(t, "Conf at the last epoch", s.Conf(1, confOf("1")), api.ErrArg)
	wantText(t, "behind it", fmt.Sprint(s.Applied(), " ", toldRegion(s.Region())), fmt.Sprintf("1 9 [, ) %d/5: 1@1", uint64(math.MaxUint64)))
}

func TestConfOfAFrozenState(t *testing.T) { // P13.3: of one that is frozen or held, too
	for _, how := range []string{"prepare :1/1 #9", "prepare :1/1 #9 +force"} {
		s := fresh(t, three)
		script(t, s, "peers :1/1 on:4@4 -> ok\n"+how+` -> ok
			conf 1,2,3||4 -> ok
			region -> 1 [, ) 2/1: 1@1 2@2 3@3 4@4~
			conf 8 -> arg
			skip -> ok
			region -> 1 [, ) 2/1: 1@1 2@2 3@3 4@4~`)
		if s.Applied() != 5 || s.Frozen()+s.Held() != 9 {
			t.Errorf("%s: applied %d, frozen %d, held %d", how, s.Applied(), s.Frozen(), s.Held())
		}
	}
}
