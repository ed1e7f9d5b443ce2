package vault

import (
	"bytes"
	"fmt"
	"slices"
	"testing"

	"regatta/api"
	"regatta/codec"
	"regatta/engine"
)

// wantLean: nothing lies in the engine but what a Save of all of it would lay there.
func wantLean(t *testing.T, what string, e *engine.Engine, group uint64, s api.Saved) {
	t.Helper()
	r := told(s)
	if s.Snap.Index == 0 {
		r.Emptied = false
	}
	plain := all(t, holding(t, Save(group, r)))
	got := all(t, e)
	if len(s.Entries) == 0 { // which entries there were last may still be noted
		got = without(got, part(group, lastPart))
	}
	wantText(t, what+": what lies there", textPairs(got), textPairs(plain))
}

func without(l []api.Pair, key []byte) []api.Pair {
	var out []api.Pair
	for _, p := range l {
		if !bytes.Equal(p.Key, key) {
			out = append(out, p)
		}
	}
	return out
}

// laid is an engine with these pairs.
func laid(t *testing.T, pairs []api.Pair) *engine.Engine {
	t.Helper()
	var batch []api.Op
	for _, p := range pairs {
		batch = append(batch, put(p.Key, p.Value))
	}
	return holding(t, batch)
}

// spoilable is of group 7 all that there may be, in one piece and in many.
func spoilable() map[string]api.Saved {
	big := string(make([]byte, 2*full))
	return map[string]api.Saved{
		"entries":             {Hard: hard(3, 1, 2), Entries: entries(1, "1=a 1(1,2,3) 3 3=")},
		"a snapshot, entries": {Hard: hard(300, 1, 7), Snap: snap(5, 2, "1 2||3", "data"), Entries: entries(6, "2=a 3(4|1,2|3) 3")},
		"pieces":              {Hard: hard(3, 1, 7), Snap: snap(5, 2, "1 2||3", big), Entries: append(entries(6, "2=a"), entry(7, "3="+big[:full]))},
	}
}

func TestWhatIsMissing(t *testing.T) { // P9.2: any one key less is seen
	for what, s := range spoilable() {
		l := all(t, holding(t, Save(7, told(s))))
		loads(t, what, laid(t, l), 7, s)
		for _, p := range l {
			lacks(t, fmt.Sprintf("%s without %x", what, p.Key), laid(t, without(l, p.Key)), 7, api.ErrVault)
		}
	}
}

// strays are keys of group 7 that are not among these, though much like them.
func strays(l []api.Pair) [][]byte {
	begin := area(keptArea)(7)
	out := [][]byte{begin, append(begin[:9:9], 0), append(begin[:9:9], 0xff), append(begin[:9:9], 0xff, 0xff), part(7, 9)}
	for _, index := range []uint64{0, 4, 5, 9, 1 << 63, greatest} {
		out = append(out, entryKeys(7)(index), piecesOf(entryKeys(7)(index))(0), piecesOf(entryKeys(7)(index))(1))
	}
	for _, p := range l {
		for _, more := range []string{"\x00", "x", "\xff", "\x00\x00\x00\x00\x00\x00\x00\x00", "\x00\x00\x00\x00\x00\x00\x00\x01"} {
			out = append(out, append(bytes.Clone(p.Key), more...))
		}
		up := bytes.Clone(p.Key)
		up[len(up)-1]++
		out = append(out, up, p.Key[:len(p.Key)-1])
	}
	return slices.DeleteFunc(out, func(key []byte) bool { return len(without(l, key)) < len(l) })
}

func TestWhatSaveDoesNotWrite(t *testing.T) { // P9.2: any key more is seen, of this group alone
	for what, s := range spoilable() {
		e := holding(t, Save(7, told(s)))
		l := all(t, e)
		write(t, e, Save(6, told(anything(6))), Save(8, told(anything(8))))
		for _, key := range strays(l) {
			for _, value := range []string{"", "\x00", "\x01\x00", string(l[0].Value)} {
				write(t, e, []api.Op{put(key, []byte(value))})
				lacks(t, fmt.Sprintf("%s and %x=%x", what, key, value), e, 7, api.ErrVault)
				loads(t, "a neighbour", e, 6, anything(6))
				loads(t, "a neighbour", e, 8, anything(8))
			}
			write(t, e, []api.Op{{Kind: api.OpDelete, Key: key}})
		}
		loads(t, what, e, 7, s)
	}
}

func TestTurnedValues(t *testing.T) { // P9.2, R7: a value is refused, or it is one that Save writes of what is told
	read, refused := 0, 0
	for what, s := range spoilable() {
		e := holding(t, Save(7, told(s)))
		for _, p := range all(t, e) {
			for _, value := range turned(p.Value) {
				write(t, e, []api.Op{put(p.Key, value)})
				got, there, code := Load(e, 7)
				if code != api.OK {
					refused++
					lacks(t, fmt.Sprintf("%s with %x=%x", what, p.Key, brief(string(value))), e, 7, api.ErrVault)
					continue
				}
				read++
				if again := holding(t, Save(7, told(got))); !there || !slices.EqualFunc(all(t, again), all(t, e), same) {
					t.Fatalf("%s with %x=%x is read as %s", what, p.Key, brief(string(value)), brief(textSaved(got)))
				}
			}
			write(t, e, []api.Op{put(p.Key, p.Value)})
		}
		loads(t, what, e, 7, s)
	}
	if read < 100 || refused < 300 {
		t.Errorf("%d are read and %d refused: the bytes are chosen badly", read, refused)
	}
}

func same(a, b api.Pair) bool {
	return bytes.Equal(a.Key, b.Key) && bytes.Equal(a.Value, b.Value)
}

// turned: a value cut off, with something behind it, and with bytes turned near its ends (fewer of one that is long).
func turned(value []byte) [][]byte {
	out := [][]byte{nil, value[:len(value)-1], value[1:]}
	if len(value) < full {
		out = append(out, append(bytes.Clone(value), 0), append(bytes.Clone(value), value...))
	}
	for i := range value {
		for _, lay := range []byte{1, 2, 3, 4, 7, 8, 0x7f, 0x80, 0xff} {
			if len(value) > 1000 && (i > 4 && i < len(value)-1 || lay != 1) {
				break
			}
			b := bytes.Clone(value)
			b[i] ^= lay
			out = append(out, b)
		}
	}
	return out
}

func TestSpoiledHard(t *testing.T) { // P9.2: whatever stands in its place
	key := part(7, hardPart)
	for _, h := range []string{"", "00", "03", "02 01 01 01 01", "04 01 01 01 01 01 01 01 01", "03 01 01 01 01", "03 01 01 01 01 00", "03 01 01 01 01 02 01 01", "03 02 81 00 01 01 01 01", "03 01 01 01 01 01 01 00"} {
		e := holding(t, []api.Op{put(key, raw(t, h))})
		lacks(t, "Hard "+h, e, 7, api.ErrVault)
	}
	e := holding(t, []api.Op{put(key, raw(t, "03 01 01 01 02 02 ac 02"))})
	loads(t, "a Hard that is one", e, 7, api.Saved{Hard: hard(1, 2, 300)})
}

func TestSpoiledSnap(t *testing.T) { // P9.2: one that stands for nothing is never kept
	key := piecesOf(part(7, snapPart))(0)
	for what, value := range map[string][]byte{
		"index 0":   snapBytes(snap(0, 1, "1", "s")),
		"all zero":  snapBytes(api.Snap{}),
		"no conf":   raw(t, "04 01 01 01 01 00 00"),
		"no bytes":  nil,
		"no fields": {0},
	} {
		e := holding(t, Save(7, api.Ready{}), []api.Op{put(key, value)})
		lacks(t, "a snapshot of "+what, e, 7, api.ErrVault)
	}
}

func TestOtherPieces(t *testing.T) { // P9.2, R7: the same bytes, cut otherwise than Save cuts them
	s := spoilable()["pieces"]
	snapshot, entry := piecesOf(part(7, snapPart)), piecesOf(entryKeys(7)(7))
	for what, last := range map[string][2][]byte{"a snapshot": {snapshot(1), snapshot(2)}, "an entry": {entry(0), entry(1)}} {
		e := holding(t, Save(7, told(s)))
		a, _, _ := e.Get(last[0])
		b, _, _ := e.Get(last[1])
		if len(a) != full || len(b) == 0 || len(b) == full {
			t.Fatalf("%s ends with pieces of %d and %d bytes", what, len(a), len(b))
		}
		write(t, e, []api.Op{put(last[0], a[:full-1]), put(last[1], append(a[full-1:], b...))})
		lacks(t, what, e, 7, api.ErrVault)
	}
	e := holding(t, Save(7, told(s)), []api.Op{put(snapshot(3), nil)})
	lacks(t, "an empty piece behind", e, 7, api.ErrVault)
}

func TestSpoiledGroups(t *testing.T) { // P9.3: where no group can be told
	save := Save(7, told(anything(7)))
	for _, key := range []string{"\x01", "\x01\x00\x00\x00\x00\x00\x00\x00", "\x01\x00\x00\x00\x00\x00\x00\x00\x05", "\x01\x00\x00\x00\x00\x00\x00\x00\x09\x02", "\x01\xff\xff\xff\xff\xff\xff\xff\xff\xff", "\x01\x00\x00\x00\x00\x00\x00\x00\x09\x01\x01"} {
		e := holding(t, save, []api.Op{put([]byte(key), nil)})
		if l, code := Groups(e); len(l) != 0 || code != api.ErrVault {
			t.Errorf("Groups with the key %x: %v, error %d", key, l, code)
		}
		loads(t, "another group", e, 7, anything(7))
	}
	tells(t, "keys that are nobody's", holding(t, save, []api.Op{put([]byte{0}, nil), put([]byte("a"), nil), put([]byte{255}, nil)}), 7)
}

func TestSpoiledGraves(t *testing.T) { // P9.4: where no peer can be told
	begin := area(buriedArea)(7)
	for what, stray := range map[string]api.Op{
		"no number":      put(begin, nil),
		"a short number": put(append(begin[:9:9], 1, 2, 3, 4, 5, 6, 7), nil),
		"a long number":  put(append(begin[:9:9], 1, 2, 3, 4, 5, 6, 7, 8, 9), nil),
		"a value":        put(under(begin, codec.Desc)(9), []byte{1}),
	} {
		e := holding(t, Bury(7, 3), []api.Op{stray}, Bury(6, 2), Bury(8, 4))
		if n, code := Buried(e, 7); n != 0 || code != api.ErrVault {
			t.Errorf("Buried with %s: %d, error %d", what, n, code)
		}
		buried(t, "a neighbour", e, 6, 2)
		buried(t, "a neighbour", e, 8, 4)
	}
}
