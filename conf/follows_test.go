package conf

import (
	"math/rand/v2"
	"slices"
	"testing"

	"regatta/api"
)

// quorums are all sets of the numbers that are a Quorum of c.
func quorums(c api.Conf, peers []uint64) [][]uint64 {
	return slices.DeleteFunc(sets(peers), func(s []uint64) bool { return !Quorum(c, s) })
}

// meet: any quorum of a and any of b have a peer in common.
func meet(t *testing.T, what string, a, b api.Conf, peers []uint64) {
	t.Helper()
	all := quorums(b, peers)
	for _, p := range quorums(a, peers) {
		for _, q := range all {
			if !common(p, q) {
				t.Fatalf("%s: %s of %s and %s of %s have nobody in common", what, toldList(p), told(a), toldList(q), told(b))
			}
		}
	}
}

func TestQuorumsMeet(t *testing.T) { // P7.6
	for _, c := range all(5) {
		meet(t, "one configuration", c, c, counted(1, 5))
		if !Quorum(c, Members(c)) {
			t.Errorf("all members of %s are no quorum", told(c))
		}
	}
}

func TestQuorumsMeetOverEnter(t *testing.T) { // P7.6
	r := rand.New(rand.NewPCG(7, 6))
	entered := 0
	for _, c := range all(5) {
		for range 30 {
			next, e := Enter(c, someChanges(r, 5))
			if e != api.OK {
				continue
			}
			entered++
			meet(t, "Enter", c, next, counted(1, 6))
			want(t, "Check of Enter's "+told(next), Check(next), api.OK)
			for _, p := range c.Voters {
				wantIs(t, "a voter of before among Members of Enter's "+told(next), slices.Contains(Members(next), p), true)
			}
		}
	}
	if entered < 1000 {
		t.Errorf("%d were entered: the changes are chosen badly", entered)
	}
}

func TestQuorumsMeetOverLeave(t *testing.T) { // P7.6
	left := 0
	for _, c := range all(5) {
		next, e := Leave(c)
		if e != api.OK {
			continue
		}
		left++
		meet(t, "Leave", c, next, counted(1, 5))
		want(t, "Check of Leave's "+told(next), Check(next), api.OK)
	}
	if left < 1000 {
		t.Errorf("%d were left", left)
	}
}

func TestLostMeansNoQuorumOfTheOthers(t *testing.T) { // P7.7
	for _, c := range all(5) {
		for _, no := range sets(counted(1, 5)) {
			var others []uint64
			for _, p := range Members(c) {
				if Votes(c, p) && !slices.Contains(no, p) {
					others = append(others, p)
				}
			}
			wantIs(t, "Lost"+told(c)+" by "+toldList(no), Lost(c, no), len(quorums(c, others)) == 0)
		}
	}
}

func TestIndexNeverFalls(t *testing.T) { // P7.7
	r := rand.New(rand.NewPCG(7, 7))
	rose := 0
	for _, c := range all(5) {
		peers, at := counted(1, 6), make([]uint64, 6)
		for range 20 {
			before := Index(c, peers, at)
			at[r.IntN(6)] += 1 + uint64(r.IntN(4))
			n := Index(c, peers, at)
			if n < before {
				t.Fatalf("Index%s %v: %d; it was %d", told(c), at, n, before)
			}
			if n > before {
				rose++
			}
		}
	}
	if rose == 0 {
		t.Errorf("Index never rose")
	}
}

// roomy is a list with room behind it, all of which is marked.
func roomy(s string) []uint64 {
	l := append(list(s), 77, 77, 77, 77)
	return l[:len(l)-4]
}

func roomyConf(voters, old, learners string) api.Conf {
	return api.Conf{Voters: roomy(voters), Old: roomy(old), Learners: roomy(learners)}
}

// untouched: a list of roomy is as it was, the room behind it too.
func untouched(t *testing.T, what string, l []uint64, s string) {
	t.Helper()
	if toldList(l) != s || toldList(l[len(l):len(l)+4]) != "77 77 77 77" {
		t.Errorf("%s: a list that was handed in is now %s", what, toldList(l[:len(l)+4]))
	}
}

func TestWhatIsHandedInIsLeft(t *testing.T) { // R3
	joint, plain := roomyConf("2 3 4", "1 2 3", "7 9"), roomyConf("1 2 3", "", "7 9")
	wild := roomyConf("9 2", "5 1", "3 2")
	peers, at, l := roomy("4 2 2 3"), roomy("9 1 8 7"), changes("+8 -1 +4 -7 ~5")
	Check(wild)
	Members(wild)
	Encode(wild)
	Enter(wild, l)
	Leave(wild)
	Quorum(wild, peers)
	Check(joint)
	Members(joint)
	Encode(joint)
	Leave(joint)
	Enter(joint, l)
	if _, e := Enter(plain, l); e != api.OK {
		t.Errorf("Enter: error %d", e)
	}
	Quorum(joint, peers)
	Lost(joint, peers)
	Index(joint, peers, at)
	untouched(t, "Voters", wild.Voters, "9 2")
	untouched(t, "Old", wild.Old, "5 1")
	untouched(t, "Learners", wild.Learners, "3 2")
	untouched(t, "Voters", joint.Voters, "2 3 4")
	untouched(t, "Old", joint.Old, "1 2 3")
	untouched(t, "Learners", joint.Learners, "7 9")
	untouched(t, "Voters", plain.Voters, "1 2 3")
	untouched(t, "Learners", plain.Learners, "7 9")
	untouched(t, "peers", peers, "4 2 2 3")
	untouched(t, "at", at, "9 1 8 7")
	if !slices.Equal(l, changes("+8 -1 +4 -7 ~5")) {
		t.Errorf("the changes that were handed in are now %v", l)
	}
}

// spoil writes over a list and the room behind it.
func spoil(l []uint64) {
	l = l[:cap(l)]
	for i := range l {
		l[i] = 55
	}
}

func TestWhatIsToldIsNewMemory(t *testing.T) { // R3
	for _, s := range []string{"1 2 3 | | 7", "2 | | 4"} {
		c := of(s)
		next, e := Enter(c, changes("+5"))
		spoil(next.Voters)
		spoil(next.Learners)
		wantNumbers(t, "Old beside other lists", next.Old, toldList(of(s).Voters))
		spoil(next.Old)
		wantConf(t, "what was handed to Enter", c, e, s)

		same, e := Enter(c, nil)
		spoil(same.Voters)
		spoil(same.Learners)
		wantConf(t, "what was handed to Enter without a change", c, e, s)

		spoil(Members(c))
		wantConf(t, "what was handed to Members", c, api.OK, s)
	}
	c := of("2 3 | 1 2 | 7")
	left, e := Leave(c)
	spoil(left.Voters)
	wantNumbers(t, "Leave's learners beside other lists", left.Learners, "7")
	spoil(left.Learners)
	wantConf(t, "what was handed to Leave", c, e, "2 3 | 1 2 | 7")
	for _, s := range []string{"1", "| 1", "| | 1"} {
		c := of(s)
		spoil(Members(c))
		wantConf(t, "what was handed to Members", c, api.OK, s)
	}

	b := Encode(c)
	read, e := Decode(b)
	clear(b)
	wantConf(t, "what was read of bytes that were turned later", read, e, "2 3 | 1 2 | 7")
	spoil(read.Voters)
	wantNumbers(t, "Decode's old ones beside other lists", read.Old, "1 2")
	spoil(read.Old)
	wantNumbers(t, "Decode's learners beside other lists", read.Learners, "7")
}

func TestTheSameAgain(t *testing.T) { // R4: not the order of a map
	l := changes("+11 ~5 +9 ~6 +8 -7 +4 -11")
	first, _ := Enter(of("1 2 3 | | 7"), l)
	for range 200 {
		c, e := Enter(of("1 2 3 | | 7"), l)
		wantConf(t, "Enter again", c, e, "1 2 3 4 8 9 | 1 2 3 | 5 6")
		if told(c) != told(first) {
			t.Fatalf("Enter again: %s; it was %s", told(c), told(first))
		}
	}
}

func TestNilAndEmptyAreTheSame(t *testing.T) { // R3
	none := []uint64{}
	c := api.Conf{Voters: list("1 2 3"), Old: none, Learners: none}
	want(t, "Check", Check(c), api.OK)
	want(t, "Check of empty lists", Check(api.Conf{Voters: none, Old: none, Learners: none}), api.ErrConf)
	next, e := Enter(c, []api.Change{})
	wantConf(t, "Enter", next, e, "1 2 3")
	left, e := Leave(c)
	wantNone(t, "Leave", left, e, api.ErrJoint)
	wantIs(t, "Quorum", Quorum(c, none), false)
	wantIs(t, "Quorum", Quorum(c, list("1 2")), true)
	wantIs(t, "Lost", Lost(c, list("1")), false)
	wantBytes(t, "Encode", Encode(c), "03 07 03 01 01 01 02 01 03 01 00 01 00")
	if n := Index(c, none, nil); n != 0 {
		t.Errorf("Index of nobody: %d", n)
	}
}
