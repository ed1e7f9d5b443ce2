package mvcc

import (
	"bytes"
	"fmt"
	"slices"
	"testing"

	"regatta/api"
)

const spare = 8

// room lays a list into memory with spare room behind it.
func room[T any](l []T) []T {
	return append(slices.Clone(l), make([]T, spare)...)[:len(l)]
}

func roomKeys(l [][]byte) [][]byte {
	l = room(l)
	for i := range l {
		l[i] = room(l[i])
	}
	return l
}

// roomy is a command all of whose lists have spare room.
func roomy(s string) api.Cmd {
	c := of(s)
	c.Primary, c.Keys, c.Secondaries, c.Muts = room(c.Primary), roomKeys(c.Keys), roomKeys(c.Secondaries), room(c.Muts)
	for i := range c.Muts {
		c.Muts[i].Key, c.Muts[i].Value = room(c.Muts[i].Key), room(c.Muts[i].Value)
	}
	return c
}

// bytesOfCmd is all the lists of bytes of a command.
func bytesOfCmd(c api.Cmd) [][]byte {
	l := slices.Concat([][]byte{c.Primary}, c.Keys, c.Secondaries)
	for _, m := range c.Muts {
		l = append(l, m.Key, m.Value)
	}
	return l
}

func bytesOfLock(l api.Lock) [][]byte {
	return append([][]byte{l.Key, l.Primary, l.Value}, l.Secondaries...)
}

func bytesOfImage(x api.Image) [][]byte {
	var l [][]byte
	for _, c := range x.Cells {
		l = append(append(l, c.Key), bytesOfLock(c.Lock)...)
		for _, w := range c.Writes {
			l = append(l, w.Value)
		}
	}
	return l
}

// whole tells lists with their spare room.
func whole(l [][]byte) string {
	s := ""
	for _, b := range l {
		s += fmt.Sprintf("%d %x\n", len(b), b[:cap(b)])
	}
	return s
}

// scribble turns each byte of the lists, with the spare room; twice is not as if never.
func scribble(l [][]byte) {
	for _, b := range l {
		b = b[:cap(b)]
		for i := range b {
			b[i] += 0x31
		}
	}
}

// wantApart: no two of the lists share memory.
func wantApart(t *testing.T, what string, l [][]byte) {
	t.Helper()
	for i, b := range l {
		was := whole(slices.Concat(l[:i], l[i+1:]))
		scribble(l[i : i+1])
		if whole(slices.Concat(l[:i], l[i+1:])) != was {
			t.Errorf("%s: the list %d (%x) shares memory with another one", what, i, b)
		}
	}
}

var memoryCmds = []string{
	"floor at:2", "gc at:1", "prewrite @5 by:b +async with:a,c,d a=one b=two c! d~", "prewrite @5 by:b +async with:a a=other", "prewrite @6 a=x", "pess @7 for:7 by:p e f", "pess @7 for:8 by:q e",
	"pess @8 for:8 by:p f", "check @5 by:b", "check @9 by:b +force", "secondaries @5 a b", "commit @5 at:6 a b", "commit @5 at:5 a", "commit @9 at:10 a b", "rollback @5 a", "rollback @12 a g",
	"prewrite @7 by:e +one e=three f=four h=five", "prewrite @7 by:e +one e=three", "secondaries @13 i j", "resolve @5 at:9 c d", "back @7 for:9 e f", "prewrite @20 a=six b=seven", "resolve @20 at:21", "resolve @20 b c",
	"floor at:10", "gc at:10", "check @1 by:a", "secondaries @1 a b", "prewrite @1 zz=1", "pess @1 for:1 by:p zz",
}

func TestCommandsAreNotKept(t *testing.T) { // R3: neither changed nor kept, the spare room neither
	s, o := New(), New()
	for _, text := range memoryCmds {
		c := roomy(text)
		was := whole(bytesOfCmd(c))
		r := s.Do(c)
		if whole(bytesOfCmd(c)) != was || cap(c.Keys) > len(c.Keys) && c.Keys[:len(c.Keys)+1][len(c.Keys)] != nil {
			t.Errorf("%s changes what is handed in", text)
		}
		answer := told(r)
		scribble(bytesOfCmd(c))
		if told(r) != answer {
			t.Errorf("%s: what is answered hangs on what was handed in", text)
		}
		wantText(t, text, answer, told(o.Do(of(text))))
		wantText(t, "the image behind "+text, image(s), image(o))
	}
}

func TestAnswersAreNew(t *testing.T) { // R3, P11.16
	s := New()
	for _, text := range memoryCmds {
		r := s.Do(of(text))
		was := image(s)
		wantApart(t, text, append(bytesOfLock(r.Lock), r.Key))
		scribble(append(bytesOfLock(r.Lock), r.Key))
		r.Lock.Secondaries = append(r.Lock.Secondaries, key("z"))
		wantText(t, "what is there, the answer of "+text+" being scribbled on", image(s), was)
	}
	script(t, s, "prewrite @30 by:b +async max:35 with:a,c,d a=one b=two c! d~ -> ok at:36")
	was := image(s)
	for range 2 {
		v, _, _ := s.Get(key("b"), 35)
		scribble([][]byte{v})
		_, _, r := s.Get(key("b"), 36)
		scribble(append(bytesOfLock(r.Lock), r.Key))
		_, r = s.Scan(nil, nil, 9, 36)
		wantApart(t, "Scan", append(bytesOfLock(r.Lock), r.Key))
		l, _ := s.Scan(nil, nil, 9, 35)
		var told [][]byte
		for _, p := range l {
			told = append(told, p.Key, p.Value)
		}
		wantApart(t, "Scan", told)
		told = nil
		for _, l := range s.Locks(nil, nil, 9, 99) {
			told = append(told, bytesOfLock(l)...)
		}
		wantApart(t, "Locks", told)
		x := s.Image()
		wantApart(t, "Image", bytesOfImage(x))
		for i := range x.Cells {
			clear(x.Cells[i].Writes)
			clear(x.Cells[i].Lock.Secondaries)
		}
		wantText(t, "what is there, all answers being scribbled on", image(s), was)
	}
}

func TestImagesAreNotKept(t *testing.T) { // R3
	x := sample(t)
	for i := range x.Cells {
		c := &x.Cells[i]
		c.Key, c.Writes, c.Lock.Key, c.Lock.Primary, c.Lock.Value = room(c.Key), room(c.Writes), room(c.Lock.Key), room(c.Lock.Primary), room(c.Lock.Value)
		c.Lock.Secondaries = roomKeys(c.Lock.Secondaries)
	}
	was, is := whole(bytesOfImage(x)), toldImage(x)
	s, e := Load(x)
	want(t, "Load", e, api.OK)
	script(t, s, `
		rollback @15 a b ff -> ok
		commit @9 at:20 a c -> ok
		floor at:7 -> ok
		gc at:7 -> ok`)
	if whole(bytesOfImage(x)) != was || toldImage(x) != is {
		t.Errorf("what was loaded changes with the store")
	}
	now := image(s)
	scribble(bytesOfImage(x))
	for i := range x.Cells {
		clear(x.Cells[i].Writes)
		clear(x.Cells[i].Lock.Secondaries)
	}
	wantText(t, "the store, the image being scribbled on", image(s), now)
}

func TestAskingChangesNothing(t *testing.T) { // R3
	s, e := Load(sample(t))
	want(t, "Load", e, api.OK)
	was := image(s)
	a, z := room(key("a")), room(key("z"))
	for ts := range uint64(20) {
		s.Get(a, ts)
		s.Scan(a, z, 9, ts)
		s.Locks(a, z, 9, ts)
		s.Size()
		s.Image()
	}
	right := s.Cut(z)
	s.Join(right)
	wantText(t, "the store", image(s), was)
	if !bytes.Equal(a[:2], []byte("a\x00")) || !bytes.Equal(z[:2], []byte("z\x00")) {
		t.Errorf("what is handed in changes")
	}
	right = s.Cut(a)
	copy(a, "q")
	wantText(t, "what was cut off", image(right), was)
}

func TestNothingIsOneForm(t *testing.T) { // R3: nil and an empty list mean the same
	none := []byte{}
	for _, k := range [][]byte{nil, none} {
		s := New()
		c := api.Cmd{Kind: api.CmdPrewrite, Start: 5, Primary: key("a"), Muts: []api.Mut{{Kind: api.KindPut, Key: key("a"), Value: k}, {Kind: api.KindDelete, Key: key("b"), Value: k}}, Keys: [][]byte{}, Secondaries: [][]byte{}}
		wantText(t, "Prewrite", told(doWell(t, s, c)), "ok at:6")
		wantText(t, "Resolve", told(doWell(t, s, api.Cmd{Kind: api.CmdResolve, Start: 5, Commit: 6, Keys: [][]byte{}})), "ok")
		wantText(t, "Get", toldGet(s.Get(key("a"), 6)), "=")
		l, r := s.Scan(k, k, 9, 6)
		wantText(t, "Scan", toldPairs(l)+told(r), "ok a=ok")
		if l := s.Locks(k, k, 9, 6); len(l) != 0 {
			t.Errorf("Locks: %v", l)
		}
		wantText(t, "Rollback of no byte", told(doWell(t, s, api.Cmd{Kind: api.CmdRollback, Start: 5, Keys: [][]byte{k}})), "arg")
		wantText(t, "Cut", image(s.Cut(k)), "0/0 | a put@5:6= | b delete@5:6")
	}
}

func TestVeryMany(t *testing.T) { // R1: many cells, many locks of one transaction, many writes of one cell
	const n = 1 << 14
	s, is := New(), api.Image{}
	muts := make([]api.Mut, 0, api.MaxKeys)
	for i := range n {
		k := fmt.Appendf(nil, "%06d", i*7919%n)
		muts = append(muts, api.Mut{Kind: api.KindPut, Key: k, Value: k})
		is.Cells = append(is.Cells, api.Cell{Key: fmt.Appendf(nil, "%06d", i), Writes: []api.Write{{Kind: api.KindPut, Start: 5, Commit: 9, Value: fmt.Appendf(nil, "%06d", i)}}})
		if len(muts) == api.MaxKeys {
			slices.SortFunc(muts, func(a, b api.Mut) int { return bytes.Compare(a.Key, b.Key) })
			want(t, "Prewrite", s.Do(api.Cmd{Kind: api.CmdPrewrite, Start: 5, Primary: k, Muts: muts}).Err, api.OK)
			muts = muts[:0]
		}
	}
	if l := s.Locks(nil, nil, 2*n, 5); len(l) != n {
		t.Errorf("Locks: %d of them", len(l))
	}
	want(t, "Resolve", s.Do(of("resolve @5 at:9")).Err, api.OK)
	wantText(t, "the image", image(s), toldImage(is))
	if s.Size() != n*14 {
		t.Errorf("Size: %d", s.Size())
	}
	for i := range uint64(1 << 12) {
		want(t, "a version", s.Do(api.Cmd{Kind: api.CmdPrewrite, Start: 10 * (i + 1), Primary: key("a"), Muts: []api.Mut{mut("a=1")}, One: true}).Err, api.OK)
	}
	script(t, s, "get a 11 -> =1")
	want(t, "Floor", s.Do(of("floor at:100000")).Err, api.OK)
	want(t, "GC", s.Do(of("gc at:100000")).Err, api.OK)
	if x := s.Image(); len(x.Cells) != n+1 || len(x.Cells[n].Writes) != 1 {
		t.Errorf("GC leaves %d cells", len(x.Cells))
	}
}
