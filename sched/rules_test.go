package sched

import (
	"fmt"
	"math"
	"testing"
)

func TestPromote(t *testing.T) { // P17.2, the first rule
	decides(t,
		row{"3", "1 2 3", "1 - - 11@1,12@2~,13@3~", "promote 1 on 2 peer 12"},
		// The least number of a peer, whatever its store.
		row{"3", "1 2 3", "1 - - 11@1,12@3~,13@2~", "promote 1 on 3 peer 12"},
		row{"3", "1 2! 3", "1 - - 11@1,12@2~,13@3~", "promote 1 on 3 peer 13"},
		row{"3", "1 2! 3", "1 - - 11@1,12@2~,13@3", ""},
		// As many as Replicas vote: one more is to.
		row{"2", "1 2 3", "1 - - 11@1,12@2,13@3~", "promote 1 on 3 peer 13"},
		// More than Replicas: the third rule.
		row{"2", "1 2 3 4", "1 - - 11@1,12@2,13@3,14@4~", "remove 1 on 3 peer 13"},
		// Those that vote on stores that are not alive do not count.
		row{"2", "1 2 3! 4", "1 - - 11@1,12@2,13@3,14@4~", "promote 1 on 4 peer 14"},
		row{"1", "1! 2! 3! 4", "1 - - 11@1,12@2,13@3,14@4~", "promote 1 on 4 peer 14"},
	)
}

func TestAdd(t *testing.T) { // P17.2, the second rule
	decides(t,
		row{"3", "5 4 3 2 1", "1 - - 11@1", "add 1 on 2"},
		row{"3", "1 2 3! 4!", "1 - - 11@1,12@2", ""},
		row{"3", "1! 2! 3", "1 - - 11@1,12@2", "add 1 on 3"},
		row{"3", "1 2 3! 4 5", "1 - - 11@1,12@2,13@3", "add 1 on 4"},
		row{"3", "1 2 3 4", "1 - - 11@1,12@2,13@3", ""},
		// The least load: learners count, and the peers of regions that are busy.
		row{"2", "1 2 3", "1 - b 11@1; 2 b c 21@1,22@2~ busy", "add 1 on 3"},
		row{"2", "1 2 3", "1 - b 11@1; 2 b c 21@1,22@3~ busy", "add 1 on 2"},
		row{"2", "1 2 3 4", "1 - b 11@1; 2 b c 21@1,22@2 busy; 3 c - 31@1,32@3 busy", "add 1 on 4"},
		row{"3", "1 2 3 4", "1 - b 11@1,12@2; 2 b c 21@1,22@2,23@3", "add 1 on 4"},
	)
}

func TestRemove(t *testing.T) { // P17.2, the third rule
	decides(t,
		// Too many vote: where the load is the greatest, of those the greatest number.
		row{"2", "1 2 3", "1 - - 11@1,12@2,13@3", "remove 1 on 3 peer 13"},
		row{"2", "1 2 3", "1 - - 11@3,12@2,13@1", "remove 1 on 3 peer 11"},
		row{"2", "1 2 3", "1 - m 11@1,12@2,13@3; 2 m - 21@1,22@2 busy", "remove 1 on 2 peer 12"},
		row{"2", "1 2 3", "1 - m 11@1,12@2,13@3; 2 m z 21@1,22@2 busy; 3 z - 31@1,32@4~ busy", "remove 1 on 1 peer 11"},
		// Of those that vote alone.
		row{"1", "1 2 3", "1 - - 11@1,12@2,13@3~", "remove 1 on 2 peer 12"},
		row{"1", "1 2 3", "1 - m 11@1,12@2,13@3~; 2 m - 21@3 busy", "remove 1 on 2 peer 12"},
		// On stores that are not alive: the least number, whether it votes or not.
		row{"2", "1 2 3! 4!", "1 - - 11@1,12@2,13@4~,14@3", "remove 1 on 4 peer 13"},
		row{"2", "1 2 3! 4!", "1 - - 11@1,12@2,13@4,14@3", "remove 1 on 4 peer 13"},
		row{"1", "1 2 3!", "1 - - 11@1,12@2,13@3", "remove 1 on 3 peer 13"},
		row{"1", "1 2 3!", "1 - - 11@1,12@2,13@3~", "remove 1 on 3 peer 13"},
		row{"2", "1 2 3 4!", "1 - - 11@1,12@2,13@4,14@3", "remove 1 on 4 peer 13"},
		row{"1", "1 2!", "1 - - 11@2,12@1", "remove 1 on 2 peer 11"},
		// Fewer vote than are asked for: who is not alive may come back.
		row{"3", "1 2 3!", "1 - - 11@1,12@2,13@3", ""},
		row{"3", "1 2! 3!", "1 - - 11@1,12@2,13@3", ""},
		row{"1", "1! 2! 3!", "1 - - 11@1,12@2,13@3", ""},
		// As many as are asked for, all alive.
		row{"2", "1 2 3", "1 - - 11@1,12@2", ""},
	)
}

func TestSplit(t *testing.T) { // P17.2, the fourth rule
	at := func(split, size int) (string, string) {
		return fmt.Sprint("1 split ", split), fmt.Sprint("1 - - 11@1 size ", size)
	}
	for _, x := range []struct {
		split, size int
		orders      string
	}{
		{5, 4, ""}, {5, 5, "split 1"}, {5, 6, "split 1"}, {1, 0, ""}, {1, 1, "split 1"}, {0, 0, ""}, {0, 5, ""}, {-1, 5, ""},
		{-5, -5, ""}, {5, -5, ""}, {math.MaxInt, math.MaxInt, "split 1"}, {math.MaxInt, math.MaxInt - 1, ""}, {1, math.MinInt, ""}, {math.MinInt, math.MaxInt, ""},
	} {
		p, r := at(x.split, x.size)
		decides(t, row{p, "1", r, x.orders})
	}
}

func TestMergeBySize(t *testing.T) { // P17.2, the fifth rule
	for _, x := range []struct {
		merge, low, high int
		orders           string
	}{
		{5, 5, 5, "merge 1 into 2"}, {5, 6, 5, ""}, {5, 5, 6, ""}, {5, 0, 0, "merge 1 into 2"}, {1, 1, 1, "merge 1 into 2"}, {5, -5, -5, "merge 1 into 2"},
		{0, 0, 0, ""}, {-1, -1, -1, ""}, {-1, -2, -2, ""}, {math.MaxInt, math.MaxInt, math.MaxInt, "merge 1 into 2"}, {math.MinInt, math.MinInt, math.MinInt, ""},
	} {
		decides(t, row{fmt.Sprint("1 merge ", x.merge), "1", fmt.Sprint("1 - m 11@1 size ", x.low, "; 2 m - 21@1 size ", x.high), x.orders})
	}
}

func TestMerge(t *testing.T) { // P17.2, the fifth rule
	decides(t,
		// Into the one behind it, whichever has the lesser number.
		row{"1 merge 5", "1", "1 m - 11@1; 2 - m 21@1", "merge 2 into 1"},
		row{"1 merge 5", "1", "1 - - 11@1", ""},
		// An End without a byte is not a Start without a byte.
		row{"1 merge 5", "1", "1 m - 11@1; 2 - c 21@1", ""},
		row{"1 merge 5", "1", "1 m - 11@1; 2 - m 21@1 size 6", ""},
		row{"1 merge 5", "1", "1 - b 11@1; 2 c - 21@1", ""},
		row{"1 merge 5", "1", "1 - c 11@1; 2 b - 21@1", ""},
		// Nobody is named twice, and who is named gets no order of its own.
		row{"1 merge 5", "1", "1 - b 11@1; 2 b c 21@1; 3 c - 31@1", "merge 1 into 2"},
		row{"1 merge 5", "1", "1 - b 11@1; 2 b c 21@1; 3 c d 31@1; 4 d - 41@1", "merge 1 into 2, merge 3 into 4"},
		row{"1 merge 5", "1", "2 - b 21@1; 1 b c 11@1; 3 c - 31@1", "merge 1 into 3"},
		row{"1 merge 5", "1", "3 - b 31@1; 2 b c 21@1; 1 c - 11@1", "merge 2 into 1"},
		row{"1 merge 5 split 9", "1", "1 m - 11@1 size 9; 2 - m 21@1", "split 1"},
		row{"1 merge 5 split 3", "1", "1 - m 11@1 size 2; 2 m - 21@1 size 3", "merge 1 into 2"},
		row{"1 merge 5 split 3", "1", "1 m - 11@1 size 3; 2 - m 21@1 size 2", "split 1"},
		row{"2 merge 5", "1 2 3", "1 m - 11@1,12@2,13@3~; 2 - m 21@1,22@2", "promote 1 on 3 peer 13"},
		// Nor one that is busy.
		row{"1 merge 5", "1", "1 - m 11@1; 2 m - 21@1 busy", ""},
		row{"1 merge 5", "1", "1 - m 11@1 busy; 2 m - 21@1", ""},
		// region.Merge has its say: the same stores, with learners on the same ones, and a Version that can rise.
		row{"1 merge 5", "1 2", "1 - m 11@1; 2 m - 21@2", ""},
		row{"2 merge 5", "1 2", "1 - m 11@1,12@2; 2 m - 21@2,22@1", "merge 1 into 2"},
		row{"2 merge 5", "1 2 3!", "1 - m 11@1,12@3~; 2 m - 21@1,22@3~", "add 1 on 2, add 2 on 2"},
		row{"2 merge 5", "1 2!", "1 - m 11@1,12@2~; 2 m - 21@1,22@2~", "merge 1 into 2"},
		row{"2 merge 5", "1 2!", "1 - m 11@1,12@2~; 2 m - 21@1,22@2", ""},
		row{"1 merge 5", "1", "1 - m 11@1 version 18446744073709551615; 2 m - 21@1", ""},
		row{"1 merge 5", "1", "1 - m 11@1 version 18446744073709551614; 2 m - 21@1", "merge 1 into 2"},
		// Where views are not of one time, the least number of those that begin there.
		row{"1 merge 5", "1", "1 - m 11@1; 3 m z 31@1; 2 m - 21@1", "merge 1 into 2"},
		row{"1 merge 5", "1", "1 - m 11@1; 3 m z 31@1; 2 m - 21@1 size 6", ""},
	)
}

func TestBalance(t *testing.T) { // P17.2, the sixth rule
	three := "1 - b 11@1; 2 b c 21@1; 3 c - 31@1"
	decides(t,
		row{"1", "1 2", "1 - b 11@1", ""},
		row{"1", "1 2", "1 - b 11@1; 2 b - 21@1", "add 1 on 2"},
		row{"1", "1 2", "1 - b 11@1; 2 b c 21@1; 3 c - 31@2", ""},
		row{"1", "1 2", three, "add 1 on 2, add 2 on 2"},
		row{"1", "1 2!", three, ""},
		row{"1", "1", three, ""},
		row{"1", "3 2 1", three, "add 1 on 2, add 2 on 3, add 3 on 2"},
		row{"1", "1 2 3", three + "; 4 d e 42@2", "add 1 on 3, add 2 on 2, add 3 on 3"},
		row{"1", "1 2 3", three + "; 4 d e 42@2 busy", "add 1 on 3, add 2 on 2, add 3 on 3"},
		// The greatest load of the stores of those that vote.
		row{"2", "1 2 3", "1 - b 11@1,12@2; 2 b c 21@2 busy; 3 c - 31@2 busy", "add 1 on 3"},
		row{"2", "1 2 3", "1 - b 11@2,12@1; 2 b c 21@2 busy", "add 1 on 3"},
		row{"2", "1 2 3", "1 - b 11@1,12@2; 2 b c 21@2,23@3 busy", ""},
		// Loads of stores where it has no peer do not count for that.
		row{"1", "1 2 3", "1 - b 11@1; 2 b c 22@2,23@3 busy; 3 c d 32@2,33@3 busy; 4 d - 42@2,43@3 busy", ""},
	)
}

func TestLeader(t *testing.T) { // P17.2, the seventh rule
	decides(t,
		row{"2", "1 2", "1 - b 11@1,12@2 leader 1", ""},
		row{"2", "1 2", "1 - b 11@1,12@2 leader 1; 2 b - 21@1,22@2 leader 1", "leader 1 on 2, leader 2 on 2"},
		row{"2", "1 2", "1 - b 11@1,12@2 leader 1; 2 b - 21@1,22@2 leader 1 busy", "leader 1 on 2"},
		row{"2", "1 2", "1 - b 11@1,12@2 leader 1; 2 b c 21@1,22@2 leader 1; 3 c - 31@1,32@2 leader 2", ""},
		row{"2", "1 2", "1 - b 11@1,12@2 leader 1; 2 b c 21@1,22@2 leader 1; 3 c - 31@1,32@2 leader 1", "leader 1 on 2, leader 2 on 2, leader 3 on 2"},
		// Without one that is known there is nothing to be handed over.
		row{"2", "1 2", "1 - b 11@1,12@2; 2 b c 21@1,22@2; 3 c - 31@1,32@2", ""},
		row{"2", "1 2", "1 - b 11@1,12@2 leader -1; 2 b c 21@1,22@2 leader -1; 3 c - 31@1,32@2 leader -1", ""},
		// The one that leads the fewest, of those the least number.
		row{"3", "3 2 1", "1 - b 11@1,12@2,13@3 leader 1; 2 b c 21@1,22@2,23@3 leader 1", "leader 1 on 2, leader 2 on 2"},
		row{"3", "1 2 3", "1 - b 11@1,12@2,13@3 leader 1; 2 b c 21@1,22@2,23@3 leader 1; 3 c d 31@1,32@2,33@3 leader 1; 4 d - 41@1,42@2,43@3 leader 2", "leader 1 on 3, leader 2 on 3, leader 3 on 3"},
		// That is alive, and has a peer that votes.
		row{"2", "1 2 3!", "1 - b 11@1,13@3 leader 1; 2 b - 21@1,23@3 leader 1 busy", "add 1 on 2"},
		row{"2", "1 3!", "1 - b 11@1,13@3 leader 1; 2 b - 21@1,23@3 leader 1 busy", ""},
		row{"2", "1 2 3", "1 - b 11@1,13@3 leader 1; 2 b c 21@1,22@2 leader 1 busy; 3 c d 32@2,33@3 busy", "leader 1 on 3"},
		row{"1", "1 2", "1 - b 11@1 leader 1; 2 b c 21@1,22@2 leader 1 busy; 3 c - 32@2 busy", ""},
		// A store that leads counts as it is told, alive or not.
		row{"2", "1 2!", "1 - b 11@1,12@2 leader 2; 2 b - 21@1,22@2 leader 2 busy", "leader 1 on 1"},
	)
}

func TestTheFirstRuleThatApplies(t *testing.T) { // P17.2: each is ahead of those behind it
	others := "; 8 x y 81@1 busy leader 1; 9 y - 91@1 busy leader 1"
	decides(t,
		row{"3 split 5 merge 9", "1 2 3 4! 5", "1 - b 11@1,12@2~,13@4 size 5; 2 b c 21@1,22@2~,23@4 size 5 busy", "promote 1 on 2 peer 12"},
		row{"2 split 5", "1 2! 3", "1 - b 11@1,12@2 size 5 leader 1" + others, "add 1 on 3"},
		row{"2 split 5", "1 2 3 4!", "1 - b 11@1,12@2,13@4 size 5 leader 1" + others, "remove 1 on 4 peer 13"},
		row{"2 split 5 merge 5", "1 2 3", "1 - b 11@1,12@2 size 5 leader 1; 2 b c 21@1,22@2 size 5" + others, "split 1, split 2"},
		row{"2 split 6 merge 5", "1 2 3", "1 - b 11@1,12@2 size 5 leader 1; 2 b c 21@1,22@2 size 5" + others, "merge 1 into 2"},
		row{"2 split 6 merge 4", "1 2 3", "1 - b 11@1,12@2 size 5 leader 1" + others, "add 1 on 3"},
		row{"2 split 6 merge 4", "1 2", "1 - b 11@1,12@2 size 5 leader 1" + others, "leader 1 on 2"},
	)
}

func TestLoadsAreChangedByOrdersAhead(t *testing.T) { // P17.2
	decides(t,
		// Each peer that is added is one more.
		row{"2", "1 2 3", "1 - b 11@1; 2 b c 21@1; 3 c d 31@1; 4 d - 41@1", "add 1 on 2, add 2 on 3, add 3 on 2, add 4 on 3"},
		// One that is removed is one fewer: without the first order, store 2 would have the greatest load for the second.
		row{"1", "1 2 3", "1 - b 11@2,12@3; 2 b c 21@1,22@2; 3 c - 33@1,34@2", "remove 1 on 2 peer 11, remove 2 on 2 peer 22, remove 3 on 1 peer 33"},
		row{"1", "1 2", "1 - b 11@1,12@2; 2 b c 21@1; 3 c d 31@1; 4 d - 42@2", "remove 1 on 1 peer 11"},
		// A balance that the first order made is none for the second.
		row{"1", "1 2", "1 - b 11@1; 2 b - 21@1", "add 1 on 2"},
		// Who is promoted was there already, and who leads moves nothing.
		row{"2", "1 2 3", "1 - b 11@1,12@2~; 2 b c 21@1; 3 c - 33@3,34@2", "promote 1 on 2 peer 12, add 2 on 3"},
		row{"1", "1 2", "1 - b 11@1,12@2~; 2 b c 21@1; 3 c - 31@1", "promote 1 on 2 peer 12, add 2 on 2"},
	)
}
