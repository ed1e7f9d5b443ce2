package vault

import (
	"fmt"
	"strings"
	"testing"

	"regatta/api"
)

func TestExamples(t *testing.T) { // the rows of the chapter's table, one behind the other
	e := fresh(t)
	lacks(t, "a new engine", e, 7, api.OK)
	tells(t, "a new engine", e)
	write(t, e, Save(7, api.Ready{Hard: hard(2, 1, 0), Entries: entries(1, "1=a 1=b")}))
	write(t, e, Save(7, api.Ready{Hard: hard(3, 0, 0), Entries: entries(2, "3=c")}))
	loads(t, "behind two Saves", e, 7, api.Saved{Hard: hard(3, 0, 0), Entries: entries(1, "1=a 3=c")})
	tells(t, "behind two Saves", e, 7)
	write(t, e, Drop(7))
	lacks(t, "behind Drop", e, 7, api.OK)
	tells(t, "behind Drop", e)
	write(t, e, Bury(7, 3), Bury(7, 2))
	buried(t, "behind two", e, 7, 3)
}

// keep does what Save is to do, in the plainest way.
func keep(s api.Saved, r api.Ready) api.Saved {
	out := api.Saved{Hard: r.Hard, Snap: s.Snap}
	if r.Snap.Index != 0 {
		out.Snap = r.Snap
	}
	for _, x := range s.Entries {
		covered := r.Snap.Index != 0 && (r.Emptied || x.Index <= r.Snap.Index)
		if !covered && (len(r.Entries) == 0 || x.Index < r.Entries[0].Index) {
			out.Entries = append(out.Entries, x)
		}
	}
	out.Entries = append(out.Entries, r.Entries...)
	return out
}

func TestSave(t *testing.T) { // P9.2: what is kept behind each of these, done one behind the other
	big := strings.Repeat("0123456789", 60000)
	for what, l := range map[string][]api.Ready{
		"Hard alone":              {{Hard: hard(9, 8, 7)}, {Hard: hard(10, 0, 7)}, {Hard: hard(greatest, greatest, greatest)}},
		"nothing at all":          {{}, {}},
		"whether it is New or no": {{Hard: hard(1, 0, 0), Entries: entries(1, "1=a")}, {New: true, Hard: hard(2, 0, 0), Entries: entries(2, "2=b")}},
		"entries behind entries":  {{Entries: entries(1, "1=a 1 1(1,2,3)")}, {Entries: entries(4, "2 2(4|1,2,3|9)")}, {Entries: entries(6, "2=")}},
		"entries over entries":    {{Entries: entries(1, "1=a 1=b 1=c 1=d")}, {Entries: entries(3, "2=e")}, {Entries: entries(2, "3=f 3=g 3=h")}, {Entries: entries(1, "4")}},
		"entries without data":    {{Entries: entries(1, "1 1 1 1")}, {Entries: entries(1, "2 2")}},
		"a snapshot first":        {{Hard: hard(1, 0, 1), Snap: snap(1, 1, "1 2 3", "fresh")}, {Hard: hard(2, 1, 1), Entries: entries(2, "2")}},
		"of some entries":         {{Entries: entries(1, "1=a 1=b 1=c 1=d")}, {Snap: snap(2, 1, "1", "s")}, {Snap: snap(3, 1, "1 2||3", "t")}, {Entries: entries(5, "1=e")}},
		"of all entries":          {{Entries: entries(1, "1=a 1=b 1=c")}, {Snap: snap(3, 1, "1", "s")}, {Entries: entries(4, "1=d")}},
		"of more than all":        {{Entries: entries(1, "1=a 1=b 1=c")}, {Snap: snap(9, 1, "1", "s")}, {Entries: entries(10, "1=d")}},
		"Emptied":                 {{Entries: entries(1, "1=a 1=b 1=c 1=d")}, {Emptied: true, Snap: snap(2, 2, "1", "s")}, {Entries: entries(3, "2=x")}},
		"Emptied, some stay":      {{Entries: entries(1, "1=a 1=b 1=c 1=d")}, {Emptied: true, Snap: snap(2, 1, "1", "s"), Entries: entries(3, "1=c")}},
		"Emptied, nothing there":  {{Emptied: true, Snap: snap(20, 2, "1", "")}, {Hard: hard(2, 2, 20)}},
		"both, not Emptied":       {{Entries: entries(1, "1=a 1=b 1=c 1=d 1=e")}, {Snap: snap(2, 1, "1", "s"), Entries: entries(4, "2=x")}},
		"Emptied, no snapshot":    {{Entries: entries(1, "1=a 1=b")}, {Emptied: true}, {Emptied: true, Entries: entries(2, "2=c")}},
		"a great snapshot":        {{Snap: snap(1, 1, "1", big)}, {Snap: snap(2, 1, "1", big[:full+7])}, {Snap: snap(3, 1, "1", "small")}, {Snap: snap(4, 1, "1", big)}},
		"great entries":           {{Entries: entries(1, "1=a 1="+big)}, {Entries: entries(2, "2="+big[:full]+" 2")}, {Entries: entries(2, "3=small 3=s 3="+big)}, {Snap: snap(3, 3, "1", "s")}, {Snap: snap(4, 3, "1", "s")}},
		"the furthest indexes":    {{Snap: snap(greatest-2, 1, "1", "s"), Entries: entries(greatest-1, "1=a 1=b")}, {Entries: entries(greatest, "2=c")}, {Snap: snap(greatest-1, 1, "1", "t")}, {Snap: snap(greatest, 1, "1", "u")}, {Emptied: true, Snap: snap(greatest, 3, "1", "v")}},
		"bytes of every kind":     {{Snap: snap(255, 1, "1", "s"), Entries: entries(256, "1=\x00 1=\xff 1=\x01\xff\xff")}, {Snap: snap(256, 1, "1", "\x00\xff")}, {Snap: snap(0x1ff+1, 1, "1", "")}},
		"a conf that is none":     {{Snap: snap(1, 0, "", "s"), Entries: entries(2, "0() 0(3,3,0)")}},
		"terms that do not fit":   {{Snap: snap(1, 9, "1", "s"), Entries: entries(2, "3 2 9")}},
	} {
		for _, group := range []uint64{0, 7, 255, 1<<56 - 1, 0x0102ffffffffffff, greatest} {
			e, s := fresh(t), api.Saved{}
			for i, r := range l {
				write(t, e, Save(group, r))
				s = keep(s, r)
				loads(t, fmt.Sprint(what, ", ", i), e, group, s)
				tells(t, what, e, group)
			}
			wantLean(t, what, e, group, s)
		}
	}
}

func TestPieces(t *testing.T) { // P9.2: bytes that are just some pieces, and one byte less or more
	for _, kind := range []string{"a snapshot", "an entry"} {
		for _, count := range []int{1, 2, 3} {
			for more := -1; more <= 1; more++ {
				r := weighing(kind, count*full+more)
				batch := Save(7, r)
				if got := 1 + puts(batch) - puts(Save(7, weighing(kind, 100))); got != count+max(more, 0) {
					t.Errorf("%s of %d pieces and %d bytes: cut to %d", kind, count, more, got)
				}
				loads(t, kind, holding(t, batch), 7, keep(api.Saved{}, r))
			}
		}
	}
}

// weighing is a snapshot or an entry whose bytes are so many.
func weighing(kind string, size int) api.Ready {
	data := string(make([]byte, min(size, full)))
	if kind == "a snapshot" {
		over := len(snapBytes(snap(3, 1, "1", data))) - len(data)
		return api.Ready{Snap: snap(3, 1, "1", strings.Repeat("s", size-over))}
	}
	over := len(Entry(entry(1, "1="+data))) - len(data)
	return api.Ready{Entries: entries(1, "1="+strings.Repeat("e", size-over))}
}

func puts(batch []api.Op) int {
	n := 0
	for _, o := range batch {
		if o.Kind == api.OpPut {
			n++
		}
	}
	return n
}

func TestManyEntries(t *testing.T) { // P9.2: as many as one message brings, and far more
	var l []api.Entry
	for i := range uint64(5000) {
		l = append(l, entry(i+1, fmt.Sprintf("%d=%d", i/10, i)))
	}
	e := holding(t, Save(7, api.Ready{Entries: l}))
	loads(t, "many entries", e, 7, api.Saved{Entries: l})
	write(t, e, Save(7, api.Ready{Snap: snap(4000, 1, "1", "s")}))
	loads(t, "the last ones", e, 7, api.Saved{Snap: snap(4000, 1, "1", "s"), Entries: l[4000:]})
	l = nil
	for i := range uint64(api.MaxEntries) {
		l = append(l, entry(i+1, "1="+strings.Repeat("x", api.MaxRecord/2/api.MaxEntries)))
	}
	loads(t, "great entries", holding(t, Save(7, api.Ready{Entries: l})), 7, api.Saved{Entries: l})
}

func TestMissingEntries(t *testing.T) { // P9.2: ErrVault, if an entry is missing
	for what, l := range map[string][]api.Ready{
		"the first one":                 {{Entries: entries(2, "1=a")}},
		"one between":                   {{Entries: append(entries(1, "1=a"), entries(3, "1=c")...)}},
		"one between two Saves":         {{Entries: entries(1, "1=a")}, {Entries: entries(3, "1=c")}},
		"the one behind a snapshot":     {{Snap: snap(4, 1, "1", "s"), Entries: entries(6, "1=a")}},
		"the one behind a later one":    {{Snap: snap(4, 1, "1", "s")}, {Entries: entries(6, "1=a")}},
		"the one behind an emptied log": {{Entries: entries(1, "1=a 1=b 1=c")}, {Emptied: true, Snap: snap(1, 2, "1", "s"), Entries: entries(3, "2=c")}},
		"all, with the index 0":         {{Entries: entries(0, "1=a")}},
		"all, with the last index":      {{Entries: entries(greatest, "1=a")}},
		"those behind the last index":   {{Snap: snap(greatest, 1, "1", "s")}, {Entries: entries(0, "1=a")}},
		"an entry that is none":         {{Entries: []api.Entry{{Index: 1}}}},
		"an entry of a fourth kind":     {{Entries: []api.Entry{entry(1, "1=a"), {Kind: 4, Index: 2}}}},
		"an entry with what is not its": {{Entries: []api.Entry{{Kind: api.EntryNone, Index: 1, Data: []byte("x")}}}},
	} {
		e := fresh(t)
		for _, r := range l {
			write(t, e, Save(7, r))
		}
		lacks(t, what, e, 7, api.ErrVault)
		write(t, e, Save(7, api.Ready{Emptied: true, Snap: snap(9, 9, "1", "s"), Entries: entries(10, "9=x")}))
		loads(t, what+", mended", e, 7, api.Saved{Snap: snap(9, 9, "1", "s"), Entries: entries(10, "9=x")})
	}
}

func TestEnginesErrors(t *testing.T) { // an engine that is over: its error, and nothing beside
	e := over(t)
	lacks(t, "an engine that is over", e, 7, api.ErrDead)
	lacks(t, "an engine that is over", e, 8, api.ErrDead)
	if l, code := Groups(e); len(l) != 0 || code != api.ErrDead {
		t.Errorf("Groups of an engine that is over: %v, error %d", l, code)
	}
	for _, group := range []uint64{7, 8} {
		if n, code := Buried(e, group); n != 0 || code != api.ErrDead {
			t.Errorf("Buried of an engine that is over: %d, error %d", n, code)
		}
	}
}
