package vault

import (
	"bytes"
	"fmt"
	"testing"

	"regatta/api"
	"regatta/engine"
)

// numbers are groups whose bytes are about all that bytes can be.
var numbers = []uint64{0, 1, 2, 7, 254, 255, 256, 0xffff, 1 << 32, 0x01ffffffffffffff, 0x0200000000000000, 0x0202020202020202, 1<<63 - 1, 1 << 63, greatest - 1, greatest}

// dataKeys are keys of a group's data.
func dataKeys(group uint64) [][]byte {
	var l [][]byte
	for _, s := range []string{"", "\x00", "k", "\xff", "\xff\xff\xff\xff\xff\xff\xff\xff\xff"} {
		l = append(l, append(Data(group), s...))
	}
	return l
}

func dataOf(group uint64) []api.Op {
	var l []api.Op
	for _, key := range dataKeys(group) {
		l = append(l, put(key, []byte("v")))
	}
	return l
}

func anything(group uint64) api.Saved {
	return api.Saved{Hard: hard(group, 1, 2), Snap: snap(2, 1, "1 2", fmt.Sprint("state of ", group)), Entries: entries(3, "1=a 2 2(1,2|1)")}
}

// told is a Ready that tells all of it.
func told(s api.Saved) api.Ready {
	return api.Ready{New: true, Emptied: true, Hard: s.Hard, Snap: s.Snap, Entries: s.Entries}
}

// house is an engine with many groups, each with all that a group may have.
func house(t *testing.T) *engine.Engine {
	t.Helper()
	e := fresh(t)
	for i := range numbers {
		group := numbers[len(numbers)-1-i]
		write(t, e, Save(group, told(anything(group))), dataOf(group), Bury(group, group/2+1))
	}
	return e
}

// isHere: all of the group is as it was laid into the house.
func isHere(t *testing.T, what string, e *engine.Engine, group uint64) {
	t.Helper()
	loads(t, what, e, group, anything(group))
	buried(t, what, e, group, group/2+1)
	for _, key := range dataKeys(group) {
		if value, there, code := e.Get(key); string(value) != "v" || !there || code != api.OK {
			t.Errorf("%s: the data of %d at %x: %q, %t, error %d", what, group, key, value, there, code)
		}
	}
}

func TestGroups(t *testing.T) { // P9.3, P9.5
	e := house(t)
	tells(t, "all", e, numbers...)
	for _, group := range numbers {
		isHere(t, "all", e, group)
	}
	want(t, "Compact", e.Compact(), api.OK)
	tells(t, "all", e, numbers...)
}

func TestGroupsAreThoseOfSave(t *testing.T) { // P9.3: data and graves make none
	e := holding(t, dataOf(3), Bury(4, 9), Save(5, api.Ready{}), Save(greatest, api.Ready{Hard: hard(1, 0, 0)}))
	tells(t, "data and graves", e, 5, greatest)
	lacks(t, "data alone", e, 3, api.OK)
	lacks(t, "a grave alone", e, 4, api.OK)
	loads(t, "a Save of nothing", e, 5, api.Saved{})
	write(t, e, Drop(greatest))
	tells(t, "data and graves", e, 5)
	write(t, e, Drop(5))
	tells(t, "data and graves", e)
}

func TestDrop(t *testing.T) { // P9.3, P9.5
	for i, group := range numbers {
		e := house(t)
		write(t, e, Drop(group))
		what := fmt.Sprint("behind Drop of ", group)
		lacks(t, what, e, group, api.OK)
		buried(t, what, e, group, group/2+1)
		for _, key := range dataKeys(group) {
			if _, there, _ := e.Get(key); there {
				t.Errorf("%s: its data are there: %x", what, key)
			}
		}
		var others []uint64
		for k, other := range numbers {
			if k != i {
				others = append(others, other)
				isHere(t, what, e, other)
			}
		}
		tells(t, what, e, others...)
		write(t, e, Save(group, told(anything(group))), dataOf(group))
		isHere(t, what+" and Save", e, group)
	}
}

func TestDropLeavesNothing(t *testing.T) { // P9.3
	for _, group := range numbers {
		e := holding(t, Bury(group, 3))
		grave := textPairs(all(t, e))
		write(t, e, Save(group, told(anything(group))), dataOf(group), Save(group, api.Ready{Entries: entries(5, "3=x")}), Drop(group))
		wantText(t, fmt.Sprint("all behind Drop of ", group), textPairs(all(t, e)), grave)
		write(t, e, Drop(group))
		wantText(t, "all behind another Drop", textPairs(all(t, e)), grave)
	}
}

func TestDropAndSaveInOneBatch(t *testing.T) { // P9.2, P9.3: a batch is done in its order
	e := holding(t, Save(7, told(anything(7))), dataOf(7))
	write(t, e, append(Drop(7), Save(7, api.Ready{Hard: hard(5, 0, 0)})...))
	loads(t, "Drop and Save", e, 7, api.Saved{Hard: hard(5, 0, 0)})
	write(t, e, append(Save(7, told(anything(7))), Drop(7)...))
	lacks(t, "Save and Drop", e, 7, api.OK)
}

func TestData(t *testing.T) { // P9.3: no other key begins so
	for _, group := range numbers {
		begin := Data(group)
		if len(begin) == 0 || len(begin) > 4*api.MaxKey/2 {
			t.Errorf("Data(%d): %x: no room for keys behind it", group, begin)
		}
		if !bytes.Equal(begin, Data(group)) {
			t.Errorf("Data(%d): another one at each call", group)
		}
		for _, other := range numbers {
			if other != group && bytes.HasPrefix(Data(other), begin) {
				t.Errorf("Data(%d) begins as Data(%d)", other, group)
			}
			for _, p := range all(t, holding(t, Save(other, told(anything(other))), Bury(other, greatest), Bury(other, 0))) {
				if bytes.HasPrefix(p.Key, begin) {
					t.Errorf("the key %x of %d begins as Data(%d)", p.Key, other, group)
				}
			}
		}
	}
}

func TestBury(t *testing.T) { // P9.4
	for _, l := range [][]uint64{{3, 2}, {2, 3}, {3, 3}, {1, 2, 3, 2, 1}, {5, 4, 3, 2, 1, 6, 1}, {255, 256, 255}, {greatest, 1}, {1, greatest, greatest - 1}, {1 << 63, 1<<63 - 1}, {0}, {0, 1, 0}} {
		e, most := fresh(t), uint64(0)
		for _, group := range numbers {
			buried(t, "a new engine", e, group, 0)
		}
		for _, peer := range l {
			write(t, e, Bury(7, peer))
			most = max(most, peer)
			buried(t, fmt.Sprint("of ", l), e, 7, most)
			for _, other := range []uint64{0, 6, 8, greatest} {
				buried(t, "another group", e, other, 0)
			}
		}
		lacks(t, "a grave", e, 7, api.OK)
		tells(t, "a grave", e)
	}
}

func TestBuryKeepsLittle(t *testing.T) { // P9.4: peers' numbers rise, and so no more than one key is kept
	e := fresh(t)
	for peer := range uint64(100) {
		write(t, e, Bury(greatest, peer))
	}
	if l := all(t, e); len(l) != 1 {
		t.Errorf("%d pairs are kept: %s", len(l), textPairs(l))
	}
	buried(t, "a hundred", e, greatest, 99)
}

func TestBuriedIsApart(t *testing.T) { // P9.4, P9.5: neither Save nor Load nor Drop asks for it
	e := holding(t, Bury(7, 5), Save(7, told(anything(7))))
	buried(t, "behind Save", e, 7, 5)
	loads(t, "behind Bury", e, 7, anything(7))
	write(t, e, append(Drop(7), Bury(7, 9)...))
	buried(t, "buried with Drop", e, 7, 9)
	lacks(t, "buried with Drop", e, 7, api.OK)
}
