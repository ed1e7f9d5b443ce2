package conf

import (
	"math"
	"slices"
	"testing"

	"regatta/api"
)

func TestExamples(t *testing.T) { // the rows of the chapter's table
	want(t, "Check(1 2 3)", Check(of("1 2 3")), api.OK)
	want(t, "Check(none)", Check(of("")), api.ErrConf)
	want(t, "Check(2 1)", Check(of("2 1")), api.ErrConf)
	want(t, "Check(1 2 | | 2)", Check(of("1 2 | | 2")), api.ErrConf)

	c, e := Enter(of("1 2 3"), changes("+4 -1"))
	wantConf(t, "Enter(1 2 3, add voter 4, remove 1)", c, e, "2 3 4 | 1 2 3")
	c, e = Enter(of("1 2 3"), changes("~4"))
	wantConf(t, "Enter(1 2 3, add learner 4)", c, e, "1 2 3 | | 4")
	c, e = Enter(of("1 2 3"), changes("~3"))
	wantNone(t, "Enter(1 2 3, add learner 3)", c, e, api.ErrConf)
	c, e = Enter(of("1"), changes("-1"))
	wantNone(t, "Enter(1, remove 1)", c, e, api.ErrConf)

	c, e = Leave(of("2 3 4 | 1 2 3"))
	wantConf(t, "Leave(2 3 4 | 1 2 3)", c, e, "2 3 4")
	c, e = Leave(of("1 2 3"))
	wantNone(t, "Leave(1 2 3)", c, e, api.ErrJoint)

	joint := of("2 3 4 | 1 2 3")
	wantIs(t, "Quorum(2 3 4 | 1 2 3; 2 3)", Quorum(joint, list("2 3")), true)
	wantIs(t, "Quorum(2 3 4 | 1 2 3; 3 4)", Quorum(joint, list("3 4")), false)
	wantIs(t, "Lost(2 3 4 | 1 2 3; 1 2)", Lost(joint, list("1 2")), true)
	if n := Index(of("1 2 3"), list("1 2 3"), list("5 7 9")); n != 7 {
		t.Errorf("Index(1 2 3; 1 2 3; 5 7 9): %d; want 7", n)
	}
}

func TestCheck(t *testing.T) { // P7.1
	taken := []string{
		"1", "7", "18446744073709551615", "1 2", "1 5 18446744073709551615",
		"1 | 1", "1 | 2", "1 2 | 1 2", "3 | 1 2", "1 | | 2", "2 | | 1", "2 | 3 | 1", "1 9 | 3 9 | 2 4",
		"1 2 3 4 5 6 7 8 9", "1 | 2 3 4 5 6 7 8 9", "1 | | 2 3 4 5 6 7 8 9", "1 2 3 | 4 5 6 | 7 8 9",
		"1 2 3 4 5 6 7 8 9 | 1 2 3 4 5 6 7 8 9", "1 2 3 4 5 6 7 8 | 1 2 3 4 5 6 7 9",
		"2 3 4 5 6 7 8 9 | 2 3 4 5 6 7 8 9 | 1",
	}
	for _, s := range taken {
		want(t, "Check("+s+")", Check(of(s)), api.OK)
	}
	refused := []string{
		"", "| 1", "| | 1", "| 1 | 2", // nobody votes
		"0", "0 1", "1 0", "1 | 0", "1 | 0 2", "1 | | 0", "1 | | 0 2", // 0 is no peer
		"2 1", "1 1", "1 2 2", "1 3 2", "1 | 3 2", "1 | 2 2", "1 | | 3 2", "1 | | 2 2", "18446744073709551615 1", // not rising
		"1 | | 1", "1 2 | | 2", "1 | 2 | 2", "1 2 | 1 2 | 1", "1 | 2 | 3 4 2", "2 | 4 | 1 3 4", // who learns does not vote
		"1 2 3 4 5 6 7 8 9 10", "1 | 2 3 4 5 6 7 8 9 10", "1 | | 2 3 4 5 6 7 8 9 10", // ten are too many
		"1 2 3 4 | 4 5 6 7 8 | 9 10", "1 2 3 4 5 6 7 8 9 | 1 2 3 4 5 6 7 8 10", "1 2 3 4 5 6 7 8 9 | 10", "1 2 3 4 5 6 7 8 9 | | 10",
		"1 | 1 2 3 4 5 6 7 8 9 10", "1 | | 2 3 4 5 6 7 8 9 10 11",
	}
	for _, s := range refused {
		want(t, "Check("+s+")", Check(of(s)), api.ErrConf)
	}
}

func TestCheckOfMany(t *testing.T) { // P7.1, R1
	many, others := counted(1, 1<<20), counted(1<<20+1, 1<<21)
	for _, c := range []api.Conf{{Voters: many}, {Voters: list("1"), Old: many}, {Voters: list("1"), Learners: many}, {Voters: many, Old: many, Learners: others}} {
		want(t, "Check of very many", Check(c), api.ErrConf)
	}
	if n := len(Members(api.Conf{Voters: many, Old: many, Learners: counted(7, 1<<20+7)})); n != 1<<20+7 {
		t.Errorf("Members of very many: %d", n)
	}
}

func TestWhoBelongs(t *testing.T) { // P7.1
	c := of("2 3 | 1 2 | 5")
	wantIs(t, "Joint of one with Old", Joint(c), true)
	wantIs(t, "Joint of one without", Joint(of("1 2 | | 3")), false)
	wantIs(t, "Joint of one with an empty Old", Joint(api.Conf{Voters: list("1"), Old: []uint64{}}), false)
	wantIs(t, "Joint of none", Joint(api.Conf{}), false)
	rows := []struct {
		peer       uint64
		has, votes bool
	}{{0, false, false}, {1, true, true}, {2, true, true}, {3, true, true}, {4, false, false}, {5, true, false}, {6, false, false}, {math.MaxUint64, false, false}}
	for _, r := range rows {
		wantIs(t, "Has "+toldList([]uint64{r.peer}), Has(c, r.peer), r.has)
		wantIs(t, "Votes "+toldList([]uint64{r.peer}), Votes(c, r.peer), r.votes)
		wantIs(t, "Has of none", Has(api.Conf{}, r.peer), false)
		wantIs(t, "Votes of none", Votes(api.Conf{}, r.peer), false)
	}
}

func TestMembers(t *testing.T) { // P7.1
	rows := [][2]string{
		{"", ""}, {"1", "1"}, {"1 2 3", "1 2 3"}, {"2 3 | 1 2 | 5", "1 2 3 5"}, {"9 | 8 | 7", "7 8 9"}, {"| 3 | 2", "2 3"}, {"1 2 | 1 2", "1 2"},
		{"18446744073709551615 | | 1", "1 18446744073709551615"},
	}
	for _, r := range rows {
		wantNumbers(t, "Members("+r[0]+")", Members(of(r[0])), r[1])
	}
}

func TestWhoBelongsToOneThatIsRefused(t *testing.T) { // P7.1: the lists are what is asked, whatever Check says
	c := of("9 3 3 | 4 0 | 3 1 9")
	want(t, "Check", Check(c), api.ErrConf)
	wantIs(t, "Joint", Joint(c), true)
	for _, p := range list("0 1 3 4 9") {
		wantIs(t, "Has "+toldList([]uint64{p}), Has(c, p), true)
		wantIs(t, "Votes "+toldList([]uint64{p}), Votes(c, p), p != 1)
	}
	wantIs(t, "Has 2", Has(c, 2), false)
	wantNumbers(t, "Members", Members(c), "0 1 3 4 9")
}

func TestAllThatCheckTakes(t *testing.T) { // P7.1: the plain definition, of all that could be made of three peers
	var lists [][]uint64
	for _, s := range sets(list("0 1 2 3")) {
		lists = append(lists, s, slices.Concat(s, list("2")))
	}
	for _, v := range lists {
		for _, o := range lists {
			for _, l := range lists {
				c, e := api.Conf{Voters: v, Old: o, Learners: l}, api.OK
				if len(v) == 0 || !rising(v) || !rising(o) || !rising(l) || common(l, v) || common(l, o) {
					e = api.ErrConf
				}
				want(t, "Check"+told(c), Check(c), e)
			}
		}
	}
}

func rising(l []uint64) bool {
	sorted := slices.Clone(l)
	slices.Sort(sorted)
	return slices.Equal(slices.Compact(sorted), l) && !slices.Contains(l, 0)
}
