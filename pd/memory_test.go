package pd

import (
	"fmt"
	"reflect"
	"testing"

	"regatta/api"
)

const spare = 3

// roomy is the same in new memory, each list with spare room behind it.
func roomy[T any](x T) T { return withRoom(reflect.ValueOf(x)).Interface().(T) }

func withRoom(v reflect.Value) reflect.Value {
	o := deep(v)
	switch v.Kind() {
	case reflect.Struct:
		for i := range v.NumField() {
			o.Field(i).Set(withRoom(v.Field(i)))
		}
	case reflect.Slice:
		o.Set(reflect.MakeSlice(v.Type(), v.Len(), v.Len()+spare))
		for i := range v.Len() {
			o.Index(i).Set(withRoom(v.Index(i)))
		}
	}
	return o
}

// lists are all the lists of a value, those in others too.
func lists(v reflect.Value) []reflect.Value {
	var l []reflect.Value
	switch v.Kind() {
	case reflect.Struct:
		for i := range v.NumField() {
			l = append(l, lists(v.Field(i))...)
		}
	case reflect.Slice:
		l = append(l, v)
		for i := range v.Len() {
			l = append(l, lists(v.Index(i))...)
		}
	}
	return l
}

func listsOf(values ...any) []reflect.Value {
	var l []reflect.Value
	for _, x := range values {
		l = append(l, lists(reflect.ValueOf(x))...)
	}
	return l
}

// with is a value and the spare room of all its lists, as a text.
func with(values ...any) string {
	s := fmt.Sprintln(values...)
	for _, l := range listsOf(values...) {
		s += fmt.Sprintln(l.Len(), l.Slice(0, l.Cap()))
	}
	return s
}

// scribble writes over all lists of the values, with their spare room.
func scribble(values ...any) {
	l := listsOf(values...)
	for i := range l { // the inner ones first: they are found by the outer ones
		x := l[len(l)-1-i].Slice(0, l[len(l)-1-i].Cap())
		for k := range x.Len() {
			if e := x.Index(k); e.Kind() == reflect.Uint8 {
				e.SetUint(e.Uint() ^ 0x5a)
			} else {
				e.SetZero()
			}
		}
	}
}

// wantApart: no two of the lists share memory.
func wantApart(t *testing.T, what string, values ...any) {
	t.Helper()
	type part struct{ from, to uintptr }
	var parts []part
	for _, l := range listsOf(values...) {
		if l.Cap() > 0 {
			parts = append(parts, part{l.Pointer(), l.Pointer() + uintptr(l.Cap())*l.Type().Elem().Size()})
		}
	}
	for i, a := range parts {
		for _, b := range parts[:i] {
			if a.from < b.to && b.from < a.to {
				t.Errorf("%s: two lists share memory", what)
				return
			}
		}
	}
}

// all is all that a driver tells of its own, and of a merge.
func all(p *Driver, id uint64) []any {
	r, _ := p.Region([]byte("n"))
	source, target, _ := p.Merge(id)
	return []any{p.Regions(), p.Registered(), p.Stores(9), r, source, target, p.Export()}
}

func TestDoKeepsNothing(t *testing.T) { // R3
	p, plain := New(1), New(1)
	for _, s := range []string{
		"region 1 - m 1/2 11@1,12@2~", "region 7 m q 1/2 71@1,72@2~", "region 7 mm q 1/3 71@1,72@2~", "region 8 - - 1/1", "region 9 q - 1/1", "region 0 a b 1/1",
		"merge 40: 7 m q 1/2 71@1,72@2~ into 1 - m 1/2 11@1,12@2~", "merge 41: 7 m q 1/2 into 2 - m 1/2", "merge 42: 7 m q 1/2 into 1 - n 1/2", "decide 40 commit", "register 7 7", "store 3",
	} {
		c := roomy(of(s))
		was := with(c)
		got := told(p.Do(c))
		want(t, s, with(c), was)
		scribble(c)
		want(t, s, got, told(plain.Do(of(s))))
		want(t, s, with(all(p, 40)...), with(all(plain, 40)...))
	}
	wantRegions(t, p, "1 - m 1/2 11@1,12@2~", "7 mm q 1/3 71@1,72@2~", "9 q - 1/1")
}

func TestAnswersAreNew(t *testing.T) { // R3
	p := busy(t)
	was := with(all(p, 41)...)
	for range 3 {
		l := all(p, 41)
		wantApart(t, "what is answered", append(l, all(p, 41)...)...)
		scribble(l...)
		want(t, "what is told, when answers are scribbled on", with(all(p, 41)...), was)
	}
	key := roomy([]byte("n"))
	text := with(key)
	p.Region(key)
	want(t, "what Region is handed", with(key), text)
}

func TestBytesAreNew(t *testing.T) { // R3
	p := busy(t)
	is := with(all(p, 41)...)
	b := roomy(p.Export())
	was := with(b)
	o, e := Import(b)
	want(t, "Import", e, api.OK)
	want(t, "what Import is handed", with(b), was)
	scribble(b)
	want(t, "a driver, its bytes being scribbled on", with(all(o, 41)...), is)
	script(t, o, "region 3 - - 1/9 -> ok\nregister 70 9 -> ok\nregister 50 9 -> ok\nrelease 60 -> ok\ndecide 41 back -> ok back\nstore 1 -> ok\nclock -> ok 4")
	want(t, "the driver of which another was made", with(all(p, 41)...), is)

	c := roomy(full())
	was = with(c)
	b = roomy(EncodeCmd(c))
	want(t, "what EncodeCmd is handed", with(c), was)
	text := with(b)
	scribble(c)
	want(t, "the bytes, the command being scribbled on", with(b), text)
	x, e := DecodeCmd(b)
	want(t, "DecodeCmd", e, api.OK)
	wantApart(t, "what DecodeCmd answers", x, b)
	want(t, "what DecodeCmd is handed", with(b), text)
	scribble(b)
	want(t, "the command, the bytes being scribbled on", fmt.Sprint(x), fmt.Sprint(full()))
}

func TestNothingIsOneForm(t *testing.T) { // R3: nil and an empty list mean the same
	a, b := New(1), New(1)
	r := api.Region{ID: 1, Peers: peers("1@1")}
	want(t, "a region", told(a.Do(api.PdCmd{Kind: api.PdRegion, Region: r})), "ok")
	r.Start, r.End = []byte{}, []byte{}
	want(t, "a region", told(b.Do(api.PdCmd{Kind: api.PdRegion, Region: r})), "ok")
	want(t, "the bytes", fmt.Sprintf("%x", a.Export()), fmt.Sprintf("%x", b.Export()))
	for _, k := range [][]byte{nil, {}} {
		if r, ok := a.Region(k); r.ID != 1 || !ok {
			t.Errorf("Region of no byte: %s, %t", toldRegion(r), ok)
		}
	}
}
