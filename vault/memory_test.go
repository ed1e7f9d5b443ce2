package vault

import (
	"bytes"
	"fmt"
	"slices"
	"testing"

	"regatta/api"
)

const spare = 16

// room lays b into memory with spare room behind it.
func room(b []byte) []byte {
	return append(slices.Grow(bytes.Clone(b), spare), make([]byte, spare)...)[:len(b)]
}

// scribble fills lists up, with their spare room, one by one: none may change another one.
func scribble(t *testing.T, what string, lists [][]byte) {
	t.Helper()
	was := make([][]byte, len(lists))
	for i, l := range lists {
		was[i] = bytes.Clone(l)
	}
	for i, l := range lists {
		for k := range l[:cap(l)] {
			l[:cap(l)][k] ^= 0x5a
		}
		for k := i + 1; k < len(lists); k++ {
			if !bytes.Equal(lists[k], was[k]) {
				t.Fatalf("%s: the lists %d and %d share memory", what, i, k)
			}
		}
	}
}

func listsOf(batch []api.Op) [][]byte {
	var l [][]byte
	for _, o := range batch {
		l = append(l, o.Key, o.Value, o.End)
	}
	return l
}

func confLists(c api.Conf) [][]uint64 { return [][]uint64{c.Voters, c.Old, c.Learners} }

// handed is a Ready with lists that have spare room, and all of its lists.
func handed() (api.Ready, [][]byte) {
	r := api.Ready{Hard: hard(1, 2, 3), Snap: snap(5, 1, "1 2||3", "snapshot"), Entries: entries(6, "1=abc 1(1|2) 1 1=d")}
	r.Entries = append(r.Entries, entry(10, "1="+string(make([]byte, 2*full))))
	r.Snap.Data = room(r.Snap.Data)
	lists := [][]byte{r.Snap.Data}
	for i := range r.Entries {
		r.Entries[i].Data = room(r.Entries[i].Data)
		lists = append(lists, r.Entries[i].Data)
	}
	return r, lists
}

func TestSaveKeepsNothing(t *testing.T) { // R3
	r, lists := handed()
	plain, _ := handed()
	batch := Save(7, r)
	if fmt.Sprint(r) != fmt.Sprint(plain) {
		t.Errorf("Save changes what is handed in")
	}
	for _, l := range lists {
		if !bytes.Equal(l[len(l):len(l)+spare], make([]byte, spare)) {
			t.Errorf("Save changes the spare room of what is handed in")
		}
	}
	was := fmt.Sprint(batch)
	scribble(t, "what was handed in", lists)
	if fmt.Sprint(batch) != was {
		t.Errorf("what Save answers hangs on what was handed in")
	}
	scribble(t, "Save", append(listsOf(batch), lists...))
	if fmt.Sprint(Save(7, plain)) != was {
		t.Errorf("Save answers another thing than before")
	}
}

func TestAnswersAreNew(t *testing.T) { // R3, R4
	for what, make := range map[string]func() [][]byte{
		"Drop":  func() [][]byte { return listsOf(Drop(7)) },
		"Bury":  func() [][]byte { return listsOf(Bury(7, 3)) },
		"Data":  func() [][]byte { return [][]byte{Data(7)} },
		"Entry": func() [][]byte { return [][]byte{Entry(entry(1, "1=a"))} },
	} {
		one, two := make(), make()
		scribble(t, what, slices.Concat(one, two))
		if got := make(); fmt.Sprint(got) == fmt.Sprint(one) {
			t.Errorf("%s: an answer hangs on another one", what)
		}
	}
}

func TestEntriesAreNew(t *testing.T) { // R3
	for _, s := range []string{"1=abc", "1=", "1(1,2|3|4)", "1"} {
		x := entry(3, s)
		x.Data = room(x.Data)
		b := Entry(x)
		was := bytes.Clone(b)
		scribble(t, "Entry", [][]byte{x.Data, b})
		b = room(was)
		got, code := TakeEntry(b)
		want(t, "TakeEntry", code, api.OK)
		if !bytes.Equal(b, was) || !bytes.Equal(b[len(b):len(b)+spare], make([]byte, spare)) {
			t.Errorf("TakeEntry changes what is handed in")
		}
		is := text(got)
		scribble(t, "TakeEntry", [][]byte{b})
		wantText(t, "behind a change of what was handed in", text(got), is)
		scribble(t, "TakeEntry", [][]byte{got.Data, b})
		if got.Conf.Voters != nil {
			_ = append(got.Conf.Voters, 9)
			got.Conf.Voters[0] = 9
			wantText(t, "the others", fmt.Sprint(got.Conf.Old, got.Conf.Learners), fmt.Sprint(of("|3|4").Old, of("||4").Learners))
		}
	}
}

func TestLoadIsNew(t *testing.T) { // R3
	r, _ := handed()
	e := holding(t, Save(7, r))
	s, _, _ := Load(e, 7)
	was := textSaved(s)
	lists, numbers := [][]byte{s.Snap.Data}, confLists(s.Snap.Conf)
	for _, x := range s.Entries {
		lists = append(lists, x.Data)
		numbers = append(numbers, confLists(x.Conf)...)
	}
	scribble(t, "Load", lists)
	for _, l := range numbers {
		for i := range l[:cap(l)] {
			l[:cap(l)][i] = 77
		}
	}
	again, _, _ := Load(e, 7)
	if textSaved(again) != was || textSaved(s) == was {
		t.Errorf("what Load answers hangs on what it answered before")
	}
}
