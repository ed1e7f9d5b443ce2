package sched

import (
	"fmt"
	"math"
	"strings"
	"testing"

	"regatta/api"
)

func TestExamples(t *testing.T) { // the chapter's
	decides(t,
		row{"3", "1 2 3", "1 - - 11@1,12@2 size 5 leader 1", "add 1 on 3"},
		row{"3", "1 2 3", "1 - - 11@1,12@2,13@3~ size 5 leader 1", "promote 1 on 3 peer 13"},
		row{"3 split 5", "1 2 3", "1 - - 11@1,12@2,13@3 size 5 leader 1", "split 1"},
		row{"3", "1 2! 3 4", "1 - - 11@1,12@2,13@3 size 5 leader 1", "add 1 on 4"},
		row{"3", "1 2! 3 4", "1 - - 11@1,12@2,13@3,14@4 size 5 leader 1", "remove 1 on 2 peer 12"},
		row{"3", "1 2 3", "1 - - 11@1,12@2 size 5 leader 1 busy", ""},
	)
}

func TestStoresThatAreNone(t *testing.T) { // P17.1
	decides(t,
		row{"9", "0 1 2", "1 - - 11@1,12@2", ""},
		row{"9", "-1 1 2", "1 - - 11@1,12@2", ""},
		row{"9", "6 1 2", "1 - - 11@1,12@2", ""},
		row{"9", "9223372036854775807 1 2", "1 - - 11@1,12@2", ""},
		row{"9", "5 1 2", "1 - - 11@1,12@2", "add 1 on 5"},
		row{"9", "1 1 1 2 2", "1 - - 11@1,12@2", ""},
		// Of a store that is told twice the first view counts.
		row{"2", "1 2 2! 3", "1 - - 11@1,12@2", ""},
		row{"2", "1 2! 2 3", "1 - - 11@1,12@2", "add 1 on 3"},
		row{"3", "3! 1 2 3", "1 - - 11@1,12@2", ""},
		// One that is not told is not alive, a number that no store has neither.
		row{"2", "1 3", "1 - - 11@1,12@2", "add 1 on 3"},
		row{"1", "1", "1 - - 11@1,12@2", "remove 1 on 2 peer 12"},
		row{"1", "1 6", "1 - - 11@1,12@6", "remove 1 on 6 peer 12"},
		row{"2", "1 6", "1 - - 11@1,12@6", "remove 1 on 6 peer 12"},
		row{"2", "1 2", "1 - - 11@1,12@2000000000", "add 1 on 2"},
	)
}

func TestRegionsThatAreNone(t *testing.T) { // P17.1: neither an order, nor a load, nor a leader, nor a neighbour
	long := strings.Repeat("k", api.MaxKey+1)
	for _, none := range []string{
		"0 - - 91@1,92@2", "9 b b 91@1,92@2", "9 c b 91@1,92@2", "9 - - -", "9 - - 91@1~,92@2~", "9 - - 92@1,91@2", "9 - - 91@1,91@2",
		"9 - - 0@1,91@2", "9 - - 91@0,92@1", "9 - - 91@1,92@1", "9 - - 91@-1,92@1", "9 " + long + " - 91@1", "9 - " + long + " 91@1",
		"9 - - 1@1,2@2,3@3,4@4,5@5,6@6,7@7,8@8,9@9,10@10",
	} {
		decides(t,
			row{"3", "1 2 3", none, ""},
			row{"2", "1 2 3", none + "; 1 - - 11@1,13@3", ""},
			row{"2", "1 2", none + "; 1 - - 11@1", "add 1 on 2"},
			// A balance that one peer more on store 1 would turn over.
			row{"1", "1 2", none + " leader 1; 1 - m 11@1; 2 m - 21@2; 3 c d 31@1", ""},
			row{"2", "1 2", none + " leader 1; 1 - m 11@1,12@2 leader 1; 2 m - 21@1,22@2", ""},
		)
	}
	decides(t,
		row{"2 merge 5", "1 2", "2 m m 21@1,22@2; 1 - m 11@1,12@2", ""},
		row{"2 merge 5", "1 2", "2 m z 21@1,22@2; 1 - m 11@1,12@2", "merge 1 into 2"},
		row{"9", "1 2 3 4 5", "9 - - 1@1,2@2,3@3,4@4,5@5,6@6,7@7,8@8,9@9", "remove 9 on 6 peer 6"},
	)
}

func TestRegionsToldTwice(t *testing.T) { // P17.1: the first counts, alone
	decides(t,
		row{"3", "1 2 3", "1 - - 11@1,12@2; 1 - - 11@1,12@2,13@3", "add 1 on 3"},
		row{"3", "1 2 3", "1 - - 11@1,12@2,13@3; 1 - - 11@1,12@2", ""},
		row{"3", "1 2 3", "1 - - 11@1,12@2 busy; 1 - - 11@1,12@2", ""},
		row{"1", "1 2", "1 - - 11@1; 1 - - 11@1; 1 - - 11@1", ""},
		row{"2", "1 2", "1 - - 11@1,12@2 leader 1; 1 - - 11@1,12@2 leader 1", ""},
		row{"1 merge 5", "1", "1 - b 11@1; 2 c d 21@1; 2 b d 21@1", ""},
		// What Check refuses was not told.
		row{"3", "1 2 3", "1 b b 11@1,12@2,13@3; 1 - - 11@1,12@2", "add 1 on 3"},
	)
}

func TestReplicas(t *testing.T) { // P17.1
	one, all := "1 - - 11@1", "1 - - 11@1,12@2,13@3"
	decides(t,
		row{"0", "1 2 3", one, ""},
		row{"-1", "1 2 3", one, ""},
		row{fmt.Sprint(math.MinInt), "1 2 3", one, ""},
		row{"0", "1 2 3", "1 - - 11@1,12@2", "remove 1 on 2 peer 12"},
		row{"1", "1 2 3", one, ""},
		row{"2", "1 2 3", one, "add 1 on 2"},
		row{"3", "1 2 3", all, ""},
		row{"4", "1 2 3", all, ""},
		row{fmt.Sprint(math.MaxInt), "1 2 3", all, ""},
		row{"2", "1 2 3", all, "remove 1 on 3 peer 13"},
		// Stores that are told count, whether they are alive or not.
		row{"9", "1 2 3! 4", "1 - - 11@1,12@2,13@3,14@4", ""},
		row{"9", "1 2 4", "1 - - 11@1,12@2,13@3,14@4", "remove 1 on 3 peer 13"},
		// One is the least, whatever there is: so nobody goes where no store is alive.
		row{"3", "", all, ""},
		row{"0", "", all, ""},
		row{"3", "1! 2! 3!", all, ""},
		row{"0", "1! 2! 3!", all, ""},
	)
}

func TestNothing(t *testing.T) { // R1, R3
	for _, got := range [][]api.Order{
		Decide(api.Policy{}, nil, nil),
		Decide(api.Policy{Replicas: 3, Split: 1, Merge: 1}, []api.StoreView{}, []api.RegionView{}),
		Decide(api.Policy{Replicas: 3}, storesOf("1 2 3"), nil),
		Decide(api.Policy{Replicas: 3}, make([]api.StoreView, 3), make([]api.RegionView, 3)),
	} {
		if len(got) != 0 {
			t.Errorf("of nothing: %s", told(got))
		}
	}
}

func TestInTheOrderOfNumbers(t *testing.T) { // P17.2
	decides(t,
		row{"2 split 5", "1 2", "10 m - 31@1,32@2 size 5; 9 c m 21@1,22@2 size 7; 18446744073709551615 b c 41@1,42@2 size 6; 1 - b 11@1,12@2 size 5", "split 1, split 9, split 10, split 18446744073709551615"},
		row{"2 split 5", "1 2", "3 m - 31@1,32@2 size 5; 2 c m 21@1,22@2 size 5 busy; 1 - c 11@1,12@2 size 4", "split 3"},
	)
}

func TestSteps(t *testing.T) { // P17.3
	r := viewOf("1 - - 11@1,12@2,13@3~").Region
	for _, x := range []struct {
		o    api.Order
		want string
	}{
		{api.Order{Kind: api.OrderAdd, Region: 1, Store: 4}, "[4 2]"},
		{api.Order{Kind: api.OrderPromote, Region: 1, Store: 3, Peer: 13}, "[3 3]"},
		{api.Order{Kind: api.OrderRemove, Region: 1, Store: 2, Peer: 12}, "[2 1]"},
		{api.Order{Kind: api.OrderRemove, Region: 1, Store: 3, Peer: 13}, "[2 2]"},
		{api.Order{Kind: api.OrderLeader, Region: 1, Store: 2}, "[3 2]"},
		{api.Order{Kind: api.OrderSplit, Region: 1}, "[3 2]"},
		{api.Order{Kind: api.OrderMerge, Region: 1, Other: 2}, "[3 2]"},
		{api.Order{}, "[3 2]"},
		{api.Order{Kind: -1, Region: 1, Store: 2, Peer: 12}, "[3 2]"},
		{api.Order{Kind: api.OrderMerge + 1, Region: 1, Store: 2, Peer: 12}, "[3 2]"},
		// Who is not there is neither a member nor one that votes.
		{api.Order{Kind: api.OrderRemove, Region: 1, Store: 4, Peer: 14}, "[3 2]"},
		{api.Order{Kind: api.OrderRemove, Region: 1, Store: 2, Peer: 11}, "[3 2]"},
		{api.Order{Kind: api.OrderRemove, Region: 1, Store: -2, Peer: 12}, "[3 2]"},
		{api.Order{Kind: api.OrderRemove, Region: 1}, "[3 2]"},
		// An order may name its peer by the store alone, or by the number.
		{api.Order{Kind: api.OrderRemove, Store: 1}, "[2 1]"},
		{api.Order{Kind: api.OrderRemove, Store: 3}, "[2 2]"},
		{api.Order{Kind: api.OrderRemove, Peer: 11}, "[2 1]"},
		{api.Order{Kind: api.OrderRemove, Peer: 13}, "[2 2]"},
	} {
		if got := fmt.Sprint(Steps(x.o, r)); got != x.want {
			t.Errorf("Steps(%+v): %s; want %s", x.o, got, x.want)
		}
	}
}

func TestStepsOfWhatIsNoRegion(t *testing.T) { // R1
	for kind := -1; kind <= api.OrderMerge+1; kind++ {
		for _, o := range []api.Order{{Kind: kind}, {Kind: kind, Store: 1, Peer: 1}, {Kind: kind, Store: math.MinInt, Peer: math.MaxUint64}} {
			want := map[int]string{api.OrderAdd: "[1 0]", api.OrderPromote: "[0 1]"}[kind]
			if want == "" {
				want = "[0 0]"
			}
			if got := fmt.Sprint(Steps(o, api.Region{})); got != want {
				t.Errorf("Steps(%+v) of a region without peers: %s; want %s", o, got, want)
			}
		}
	}
	twice := api.Region{Peers: peersOf("1@1,1@1")}
	if got := fmt.Sprint(Steps(api.Order{Kind: api.OrderRemove, Store: 1, Peer: 1}, twice)); got != "[1 1]" {
		t.Errorf("Steps of a peer that is there twice: %s; want one fewer", got)
	}
}
