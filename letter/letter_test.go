package letter

import (
	"bytes"
	"fmt"
	"math"
	"reflect"
	"testing"

	"regatta/api"
	"regatta/codec"
	"regatta/row"
)

// filler gives each number, text and list another value.
type filler struct{ n int }

func (f *filler) fill(v reflect.Value) {
	f.n++
	switch v.Kind() {
	case reflect.Struct:
		for i := range v.NumField() {
			f.fill(v.Field(i))
		}
	case reflect.Slice:
		l := reflect.MakeSlice(v.Type(), 1+f.n%3, 4)
		for i := range l.Len() {
			f.fill(l.Index(i))
		}
		v.Set(l)
	case reflect.Bool:
		v.SetBool(true)
	case reflect.Int:
		v.SetInt(int64(f.n))
	case reflect.Uint64:
		v.SetUint(uint64(f.n) << (f.n % 50))
	case reflect.Uint8:
		v.SetUint(uint64(f.n % 256))
	}
}

// whole: a part in which everything is set; what is an entry is one.
func whole(kind, seed int) Part {
	var x Part
	f := &filler{n: seed}
	f.fill(reflect.ValueOf(&x).Elem())
	x.Kind = kind
	x.Message.Entries = []api.Entry{
		{Kind: api.EntryData, Term: 3, Index: 7, Data: []byte("data")},
		{Kind: api.EntryConf, Term: 3, Index: 8, Conf: api.Conf{Voters: []uint64{1, 2}, Old: []uint64{2}, Learners: []uint64{9}}},
		{Kind: api.EntryNone, Term: math.MaxUint64, Index: 9},
	}
	return x
}

// counts: the fields of a part that each kind tells, and no others.
func counts() map[int][]string {
	return map[int][]string{
		Message:   {"Group", "Conf", "Message"},
		Piece:     {"Group", "Message", "Sum", "Length", "Data"},
		Lonely:    {"Group", "Peer", "Conf", "Term"},
		Gone:      {"Group", "Peer"},
		Store:     {},
		Region:    {"Region", "Term", "Size"},
		Order:     {"Order", "Epoch"},
		Merge:     {"N", "Region", "Other", "Status", "Swallowed"},
		AskMerge:  {"N"},
		Pull:      {"N", "Region"},
		Source:    {"Cmd"},
		AskTime:   {"Tag"},
		AskDriver: {"Tag", "Pd"},
		AskRegion: {"Tag", "Key"},
		AskCmd:    {"Tag", "Group", "Cmd"},
		AskGet:    {"Tag", "Group", "TS", "Epoch", "Key"},
		AskScan:   {"Tag", "Group", "TS", "Epoch", "Key", "End", "Limit"},
		AskLocks:  {"Tag", "Group", "TS", "Epoch", "Key", "End", "Limit"},
		Answer:    {"Tag", "Result", "Leader", "Found", "Value", "Pairs", "Locks"},
		Reply:     {"Tag", "PdResult", "TS", "Region", "Leader"},
	}
}

// cut: the part with what counts of its kind alone.
func cut(x Part) Part {
	y := Part{Kind: x.Kind}
	for _, name := range counts()[x.Kind] {
		reflect.ValueOf(&y).Elem().FieldByName(name).Set(reflect.ValueOf(x).FieldByName(name))
	}
	switch x.Kind {
	case Message:
		y.Message.Snap = api.Snap{}
	case Piece:
		y.Message.Entries, y.Message.Snap.Data = nil, nil
	}
	return y
}

func text(l []Part) string { return fmt.Sprintf("%+v", l) }

func TestEachKind(t *testing.T) {
	var all []Part
	for kind := Message; kind <= Reply; kind++ {
		for _, x := range []Part{{Kind: kind}, whole(kind, 1), whole(kind, 1000)} {
			got, ok := Read(Write([]Part{x}))
			if want := text([]Part{cut(x)}); !ok || text(got) != want {
				t.Errorf("the kind %d: %v\n%s; want\n%s", kind, ok, text(got), want)
			}
			all = append(all, x)
		}
	}
	var want []Part
	for _, x := range all {
		want = append(want, cut(x))
	}
	if got, ok := Read(Write(all)); !ok || text(got) != text(want) {
		t.Errorf("all in one letter: %v, %d parts", ok, len(got))
	}
	if got, ok := Read(Write(nil)); !ok || len(got) != 0 {
		t.Errorf("a letter of nothing: %v, %d parts", ok, len(got))
	}
}

// TestOneForm: parts that are unlike in what counts are unlike as letters, and each field that counts is told.
func TestOneForm(t *testing.T) {
	seen := map[string]string{}
	for kind := Message; kind <= Reply; kind++ {
		for _, field := range counts()[kind] {
			x := whole(kind, 1)
			b := Write([]Part{x})
			f := &filler{n: 5000}
			f.fill(reflect.ValueOf(&x).Elem().FieldByName(field))
			if kind == Message || kind == Piece {
				x.Message.Entries = nil
			}
			if field == "Found" || field == "Swallowed" {
				reflect.ValueOf(&x).Elem().FieldByName(field).SetBool(false)
			}
			if bytes.Equal(b, Write([]Part{x})) {
				t.Errorf("the kind %d does not tell %s", kind, field)
			}
		}
		b := string(Write([]Part{whole(kind, 1)}))
		if was, twice := seen[b]; twice {
			t.Errorf("the kinds %s and %d are the same", was, kind)
		}
		seen[b] = fmt.Sprint(kind)
	}
}

func TestWhatIsNoLetter(t *testing.T) {
	good := Write([]Part{whole(Message, 3), whole(Piece, 4), whole(Answer, 5), whole(Source, 6)})
	for i := range good {
		if _, ok := Read(good[:i]); ok {
			t.Errorf("the first %d bytes are a letter", i)
		}
		for bit := range 8 {
			b := bytes.Clone(good)
			b[i] ^= 1 << bit
			if _, ok := Read(b); ok {
				t.Errorf("with the byte %d turned it is a letter", i)
			}
		}
	}
	if _, ok := Read(append(bytes.Clone(good), 0)); ok {
		t.Error("with a byte more it is a letter")
	}
	num := func(l ...uint64) [][]byte {
		var out [][]byte
		for _, n := range l {
			out = append(out, codec.Varint(n))
		}
		return out
	}
	for what, fields := range map[string][][]byte{
		"a part without a kind":       {{}},
		"the kind 0":                  num(0),
		"a kind that is none":         num(Reply + 1),
		"a great kind":                num(1 << 62),
		"a kind below 0":              num(math.MaxUint64),
		"a part that ends early":      num(Gone, 1),
		"a part and half another one": num(Gone, 1, 2, Gone),
		"a number that is none":       {codec.Varint(AskMerge), {0x80, 0}},
		"neither yes nor no":          {codec.Varint(Merge), codec.Varint(1), row.Write(api.Region{}, (*row.Walk).Region), codec.Varint(1), codec.Varint(2)},
		"a command that is none":      {codec.Varint(Source), []byte("x")},
		"a driver's that is none":     append(num(AskDriver, 1, 2, 3), []byte("x")),
		"members that are none":       append(num(Piece, 1, 7, 1, 2, 3, 4, 5, 6, 7, 0, 1, 1), []byte("x"), codec.Varint(1), codec.Varint(1), nil),
		"an entry that is none":       append(num(Message, 1, 1, 5, 1, 2, 3, 4, 5, 6, 7, 0), codec.Row([]byte("x"))),
	} {
		inner := codec.Row(codec.Row(fields...))
		if l, ok := Read(codec.Frame(inner)); ok {
			t.Errorf("%s: %+v", what, l)
		}
	}
	for _, b := range [][]byte{nil, {}, {0}, codec.Frame(nil), codec.Frame(codec.Row()), codec.Frame(codec.Row(nil)), codec.Frame(codec.Row(codec.Row(), nil))} {
		if l, ok := Read(b); ok {
			t.Errorf("%x: %+v", b, l)
		}
	}
}

func TestMemory(t *testing.T) { // R3
	x := whole(Message, 1)
	x.Message.Entries[0].Data = []byte("abc")
	b := Write([]Part{x})
	x.Message.Entries[0].Data[0] = 'z'
	got, _ := Read(b)
	if string(got[0].Message.Entries[0].Data) != "abc" {
		t.Error("Write keeps what is handed in")
	}
	clear(b)
	if string(got[0].Message.Entries[0].Data) != "abc" {
		t.Error("Read keeps what is handed in")
	}
}
