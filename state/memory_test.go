package state

import (
	"bytes"
	"fmt"
	"reflect"
	"testing"

	"regatta/api"
)

const spare = 3

// roomy is the same in new memory, each list with spare room behind it.
func roomy[T any](x T) T { return withRoom(reflect.ValueOf(x)).Interface().(T) }

func withRoom(v reflect.Value) reflect.Value {
	o := deep(v)
	switch v.Kind() {
	case reflect.Struct:
		for i := range v.NumField() {
			o.Field(i).Set(withRoom(v.Field(i)))
		}
	case reflect.Slice:
		o.Set(reflect.MakeSlice(v.Type(), v.Len(), v.Len()+spare))
		for i := range v.Len() {
			o.Index(i).Set(withRoom(v.Index(i)))
		}
	}
	return o
}

// lists are all the lists of a value, those in others too.
func lists(v reflect.Value) []reflect.Value {
	var l []reflect.Value
	switch v.Kind() {
	case reflect.Struct:
		for i := range v.NumField() {
			l = append(l, lists(v.Field(i))...)
		}
	case reflect.Slice:
		l = append(l, v)
		for i := range v.Len() {
			l = append(l, lists(v.Index(i))...)
		}
	}
	return l
}

func listsOf(values ...any) []reflect.Value {
	var l []reflect.Value
	for _, x := range values {
		l = append(l, lists(reflect.ValueOf(x))...)
	}
	return l
}

// with is a value and the spare room of all its lists, as a text.
func with(values ...any) string {
	s := ""
	for _, l := range listsOf(values...) {
		s += fmt.Sprintln(l.Len(), l.Slice(0, l.Cap()))
	}
	return s
}

// scribble writes over all lists of the values, with their spare room.
func scribble(values ...any) {
	l := listsOf(values...)
	for i := range l { // the inner ones first: they are found by the outer ones
		x := l[len(l)-1-i].Slice(0, l[len(l)-1-i].Cap())
		for k := range x.Len() {
			if e := x.Index(k); e.Kind() == reflect.Uint8 {
				e.SetUint(e.Uint() ^ 0x5a)
			} else {
				e.SetZero()
			}
		}
	}
}

// wantApart: no two of the lists share memory.
func wantApart(t *testing.T, what string, values ...any) {
	t.Helper()
	type part struct{ from, to uintptr }
	var parts []part
	for _, l := range listsOf(values...) {
		if l.Cap() > 0 {
			parts = append(parts, part{l.Pointer(), l.Pointer() + uintptr(l.Cap())*l.Type().Elem().Size()})
		}
	}
	for i, a := range parts {
		for _, b := range parts[:i] {
			if a.from < b.to && b.from < a.to {
				t.Errorf("%s: two lists share memory", what)
				return
			}
		}
	}
}

func memoryCmds() []api.Cmd {
	var l []api.Cmd
	for _, s := range []string{
		"prewrite :2/4 @10 by:e +async with:f,zz e=one f~ g!", "prewrite :2/4 @11 f=x", "prewrite :2/3 @11 f=x", "prewrite :2/4 @11 ttt=x", "check :2/4 @10 by:e", "check :2/4 @10 by:aaa", "secondaries :2/4 @10 e f",
		"rollback :2/4 @12 h azz", "rollback :2/4 @12 h", "pess :2/4 @13 for:14 by:zz i", "prewrite :2/4 @13 by:zz +one i=two", "resolve :2/4 @10 at:20 f g", "floor :2/4 at:5", "gc :2/4 at:5", "peers :2/4 on:8@8,9@9~", "peers :2/4 on:8@0",
		"split :2/4 g #77 on:40,50", "prepare :2/5 #9 +force", "split :2/5 c #77 on:40,50",
	} {
		l = append(l, of(s))
	}
	c := absorbing("absorb :2/5 #9", "70 g m 2/9 30@1 31@2", busyImage())
	return append(l, c, c, of("prewrite :2/10 @20 l=1"), of("prepare :2/10 #30"), of("prewrite :2/10 @21 l=1"), of("back #30"))
}

// busyImage has a lock with all that a lock may have, and writes.
func busyImage() api.Image {
	x := imageOf("h", "i")
	x.Cells[1].Locked = true
	x.Cells[1].Lock = api.Lock{Kind: api.KindPut, Key: key("i"), Primary: key("i"), Value: key("v"), Start: 5, MinCommit: 6, Async: true, Secondaries: keys("j,kk")}
	return x
}

func TestCommandsAreNotKept(t *testing.T) { // R3: neither changed nor kept, the spare room neither
	s, o := home(t), home(t)
	for i, c := range memoryCmds() {
		x := roomy(c)
		was := with(x)
		r, right, e := s.Apply(s.Applied()+1, x)
		want(t, "Apply", e, api.OK)
		EncodeCmd(x)
		if with(x) != was {
			t.Errorf("command %d changes what is handed in", i)
		}
		answer := with(r)
		scribble(x)
		wantText(t, "what is answered, the command being scribbled on", with(r), answer)
		r2, right2, _ := o.Apply(o.Applied()+1, c)
		wantText(t, fmt.Sprint("command ", i), told(r), told(r2))
		wantText(t, fmt.Sprint("the state behind command ", i), tells(s), tells(o))
		if right != nil {
			wantText(t, "the right state", tells(right), tells(right2))
		}
	}
}

func TestAnswersAreNew(t *testing.T) { // R3
	s := home(t)
	met := map[api.Errno]int{}
	for i, c := range memoryCmds() {
		r, right, _ := s.Apply(s.Applied()+1, c)
		met[r.Err]++
		what := fmt.Sprint("the state, the answer of command ", i, " being scribbled on")
		wantApart(t, what, r)
		was := tells(s)
		rights := ""
		if right != nil {
			rights = tells(right)
		}
		scribble(r)
		wantText(t, what, tells(s), was)
		if right != nil {
			wantText(t, "the right state", tells(right), rights)
		}
	}
	for _, e := range []api.Errno{api.OK, api.ErrEpoch, api.ErrRange, api.ErrLocked, api.ErrFrozen, api.ErrMerge, api.ErrArg} {
		if met[e] == 0 {
			t.Errorf("the error %d was not met", e)
		}
	}
}

func TestTellingIsNew(t *testing.T) { // R3
	s := busy(t)
	was := tells(s)
	for range 2 {
		x := []any{s.Region(), s.Swallowed(), s.Places(), s.Image(), s.Export(), s.Region(), s.Swallowed(), s.Places(), s.Image(), s.Export()}
		wantApart(t, "what is told", x...)
		scribble(x...)
		v, _, r := s.Get(key("c"), 9, epoch("2/4"))
		_, _, r2 := s.Get(key("e"), 99, epoch("2/4"))
		_, _, r3 := s.Get(key("c"), 9, epoch("2/3"))
		_, _, r4 := s.Get(key("azz"), 9, epoch("2/4"))
		p, r5 := s.Scan(nil, nil, 9, 9, epoch("2/4"))
		_, r6 := s.Scan(nil, nil, 9, 99, epoch("2/4"))
		l, r7 := s.Locks(nil, nil, 9, 99, epoch("2/4"))
		if len(v) != 1 || len(p) != 2 || len(l) != 3 || len(r2.Key) == 0 || len(r3.New.Peers) == 0 || len(r4.Key) == 0 || len(r6.Key) == 0 {
			t.Fatalf("the reads are chosen badly")
		}
		x = []any{v, r, r2, r3, r4, p, r5, r6, l, r7}
		wantApart(t, "what is read", x...)
		scribble(x...)
		wantText(t, "the state, all that was told being scribbled on", tells(s), was)
	}
}

func TestAskingChangesNothing(t *testing.T) { // R3, P13.4
	s := busy(t)
	was := s.Export()
	a, z := roomy(key("c")), roomy(key("z"))
	is := with(a, z)
	for ts := range uint64(20) {
		for _, at := range []string{"2/4", "2/3"} {
			s.Get(a, ts, epoch(at))
			s.Scan(a, z, 9, ts, epoch(at))
			s.Locks(a, z, 9, ts, epoch(at))
		}
		s.Size()
	}
	if with(a, z) != is || !bytes.Equal(s.Export(), was) {
		t.Errorf("what is asked, or is asked by, changes")
	}
}

func TestNewKeepsNothing(t *testing.T) { // R3
	r, x := roomy(regionOf("9 b m 1/1 1@1 2@2~")), roomy(busyImage())
	was := with(r, x)
	s, e := New(r, x)
	want(t, "New", e, api.OK)
	is := tells(s)
	script(t, s, "rollback :1/1 @9 h i -> ok\nresolve :1/1 @5 at:7 -> ok\nsplit :1/1 h #7 on:4,5 -> ok 7 [h, m) 1/2: 4@1 5@2~")
	if with(r, x) != was {
		t.Errorf("what was handed in changes with the state")
	}
	s, e = New(r, x)
	want(t, "New", e, api.OK)
	scribble(r, x)
	wantText(t, "the state, what was handed in being scribbled on", tells(s), is)
}

func TestConfKeepsNothing(t *testing.T) { // R3
	s := fresh(t, three)
	script(t, s, "peers :1/1 on:4@4 -> ok")
	c := roomy(confOf("1,2,4|1,2,3"))
	was := with(c)
	want(t, "Conf", s.Conf(2, c), api.OK)
	if with(c) != was {
		t.Errorf("Conf changes what is handed in")
	}
	is := tells(s)
	scribble(c)
	wantText(t, "the state, the configuration being scribbled on", tells(s), is)
}

func TestBytesKeepNothing(t *testing.T) { // R3
	b := roomy(busy(t).Export())
	was := with(b)
	s, e := Import(b)
	want(t, "Import", e, api.OK)
	o, e := Import(b)
	want(t, "Import", e, api.OK)
	if with(b) != was {
		t.Errorf("Import changes what is handed in")
	}
	is := tells(s)
	scribble(b)
	script(t, o, "back #300 -> ok\nrollback :2/4 @11 e g -> ok\npeers :2/4 -> ok\nfloor :2/4 at:99 -> ok\nsplit :2/4 c #7 on:4,5 -> ok 7 [c, t) 2/5: 4@1 5@2")
	wantText(t, "the state, the bytes being scribbled on", tells(s), is)

	c := roomy(full())
	was = with(c)
	b = roomy(EncodeCmd(c))
	if with(c) != was {
		t.Errorf("EncodeCmd changes what is handed in")
	}
	text := with(b)
	scribble(c)
	wantText(t, "the bytes, the command being scribbled on", with(b), text)
	x, e := DecodeCmd(b)
	want(t, "DecodeCmd", e, api.OK)
	wantApart(t, "what DecodeCmd answers", x, b)
	if with(b) != text {
		t.Errorf("DecodeCmd changes what is handed in")
	}
	scribble(b)
	wantText(t, "the command, the bytes being scribbled on", fmt.Sprint(x), fmt.Sprint(full()))
}

func TestNothingIsOneForm(t *testing.T) { // R3: nil and an empty list mean the same
	none := api.Region{ID: 1, Start: []byte{}, End: []byte{}, Peers: peers("1@1")}
	a, e := New(none, api.Image{Cells: []api.Cell{}})
	want(t, "New", e, api.OK)
	b := fresh(t, "1 - - 0/0 1@1")
	b.region.Start, b.region.End = nil, nil
	if !bytes.Equal(a.Export(), b.Export()) {
		t.Errorf("Export tells nil from an empty list")
	}
	for _, k := range [][]byte{nil, {}} {
		wantText(t, "Get", toldGet(a.Get(k, 9, epoch("0/0"))), "none")
		wantText(t, "Scan", toldPairs(a.Scan(k, k, 9, 9, epoch("0/0"))), "ok")
		r, _ := apply(t, a, api.Cmd{Kind: api.CmdSplit, Keys: [][]byte{k}, ID: 2, Peers: peers("2")})
		wantText(t, "a split at no byte", told(r), "range")
		r, _ = apply(t, a, api.Cmd{Kind: api.CmdResolve, Start: 5, Keys: [][]byte{}, Muts: []api.Mut{}})
		wantText(t, "CmdResolve without keys", told(r), "ok")
	}
}
