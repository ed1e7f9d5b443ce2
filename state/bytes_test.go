package state

import (
	"bytes"
	"fmt"
	"math"
	"math/rand/v2"
	"reflect"
	"slices"
	"testing"

	"regatta/api"
	"regatta/codec"
	"regatta/mvcc"
	"regatta/region"
	"regatta/row"
)

// deep is the same in new memory; it is a value that can be set.
func deep(v reflect.Value) reflect.Value {
	o := reflect.New(v.Type()).Elem()
	o.Set(v)
	switch v.Kind() {
	case reflect.Struct:
		for i := range v.NumField() {
			o.Field(i).Set(deep(v.Field(i)))
		}
	case reflect.Slice:
		if v.IsNil() {
			return o
		}
		o.Set(reflect.MakeSlice(v.Type(), v.Len(), v.Len()))
		for i := range v.Len() {
			o.Index(i).Set(deep(v.Index(i)))
		}
	}
	return o
}

// turns sets each part of v, one by one, to other things, asks look at each, and sets it back.
func turns(v reflect.Value, look func()) {
	was := reflect.ValueOf(v.Interface())
	try := func(x any) {
		v.Set(reflect.ValueOf(x).Convert(v.Type()))
		look()
		v.Set(was)
	}
	switch v.Kind() {
	case reflect.Bool:
		try(!v.Bool())
	case reflect.Int:
		for _, n := range []int{0, 1, 127, 128, -1, 1 << 31, 1 << 32, math.MinInt, math.MaxInt} {
			try(n)
		}
	case reflect.Uint8:
		try(byte(v.Uint()) + 1)
	case reflect.Uint64:
		for _, n := range []uint64{0, 1, 127, 128, 1 << 62, 1 << 63, math.MaxUint64} {
			try(n)
		}
	case reflect.Struct:
		for i := range v.NumField() {
			turns(v.Field(i), look)
		}
	case reflect.Slice:
		none := reflect.Zero(v.Type().Elem())
		for i := range v.Len() + 1 {
			try(reflect.AppendSlice(reflect.Append(deep(v.Slice(0, i)), none), v.Slice(i, v.Len())).Interface()) // one more
			try(deep(v.Slice(0, i)).Interface())                                                                 // only the first
			try(deep(v.Slice(i, v.Len())).Interface())
		}
		for i := range v.Len() {
			turns(v.Index(i), look)
		}
	}
}

func full() api.Cmd {
	c := of("prewrite :3/4 @5 at:6 for:7 max:8 by:p with:q,rr #9 on:1@2~,3@4 aa=11 b=2 k l")
	c.Muts[0].Held = true
	c.Region = regionOf("7 c d 5/6 8@9~ 10@11")
	c.Image = api.Image{Floor: 12, GC: 13, Cells: []api.Cell{
		{Key: key("e"), Locked: true, Lock: api.Lock{Kind: 1, Key: key("f"), Primary: key("g"), Value: key("hh"), Start: 14, ForUpdate: 15, MinCommit: 16, Async: true, Secondaries: keys("i,j")}},
		{Key: key("m"), Lock: api.Lock{Kind: 9}, Writes: []api.Write{{Kind: 3, Commit: 17, Start: 18, Value: key("n")}, {Kind: -4, Value: key("o")}}},
	}}
	return c
}

func TestCmdBytes(t *testing.T) { // P13.5: of any fields; the same have the same bytes, others have others
	texts := map[string]string{}
	look := func(c api.Cmd) {
		text, b := fmt.Sprint(c), EncodeCmd(c)
		if other, there := texts[string(b)]; there && other != text {
			t.Fatalf("%s and %s have the same bytes", text, other)
		}
		texts[string(b)] = text
		x, e := DecodeCmd(b)
		if e != api.OK || fmt.Sprint(x) != text {
			t.Fatalf("%s is read as %+v, error %d", text, x, e)
		}
		if !bytes.Equal(EncodeCmd(x), b) {
			t.Fatalf("%s has other bytes when it was read", text)
		}
	}
	for _, c := range []api.Cmd{full(), {}, of("back #9"), of("prewrite :1/1 @5 a=1 b~ c!")} {
		look(c)
		v := deep(reflect.ValueOf(c))
		turns(v, func() { look(v.Interface().(api.Cmd)) })
		if fmt.Sprint(v.Interface()) != fmt.Sprint(c) {
			t.Fatalf("the test does not set back what it turns")
		}
	}
	if len(texts) < 400 {
		t.Errorf("%d commands were looked at", len(texts))
	}
}

func TestCmdBytesOfNothing(t *testing.T) { // P13.5, R3: nil and an empty list mean the same
	none := api.Cmd{Primary: []byte{}, Muts: []api.Mut{}, Keys: [][]byte{}, Secondaries: [][]byte{}, Peers: []api.Peer{},
		Region: api.Region{Start: []byte{}, End: []byte{}, Peers: []api.Peer{}}, Image: api.Image{Cells: []api.Cell{}}}
	if !bytes.Equal(EncodeCmd(none), EncodeCmd(api.Cmd{})) {
		t.Errorf("EncodeCmd tells nil from an empty list")
	}
	some := api.Cmd{Keys: [][]byte{nil}, Muts: []api.Mut{{}}}
	also := api.Cmd{Keys: [][]byte{{}}, Muts: []api.Mut{{Key: []byte{}, Value: []byte{}}}}
	if !bytes.Equal(EncodeCmd(some), EncodeCmd(also)) || bytes.Equal(EncodeCmd(some), EncodeCmd(none)) {
		t.Errorf("EncodeCmd of keys without a byte")
	}
}

// wantRefused: no state, and no command, is read of these bytes.
func wantRefused(t *testing.T, what string, b []byte) {
	t.Helper()
	if s, e := Import(b); s != nil || e != api.ErrForm {
		t.Errorf("Import of %s: error %d", what, e)
	}
	if c, e := DecodeCmd(b); e != api.ErrForm || !reflect.ValueOf(c).IsZero() {
		t.Errorf("DecodeCmd of %s: %+v, error %d", what, c, e)
	}
}

// twice is a row with all fields of this one, and all of them again.
func twice(b []byte) []byte {
	fields, _ := codec.TakeRow(b)
	return codec.Row(append(fields, fields...)...)
}

func TestBytesRefused(t *testing.T) { // P13.5: ErrForm, and nothing beside it
	s := busy(t)
	for _, b := range [][]byte{s.Export(), EncodeCmd(full()), EncodeCmd(api.Cmd{}), fresh(t, three).Export()} {
		for n := range b {
			wantRefused(t, fmt.Sprint(n, " bytes of them"), b[:n])
		}
		for _, more := range []string{"\x00", "\x01", "\xff", string(b)} {
			wantRefused(t, "them with more behind", append(bytes.Clone(b), more...))
		}
		for _, ahead := range []string{"\x00", "\x01", "\xff"} {
			wantRefused(t, "them with more ahead", append([]byte(ahead), b...))
		}
		wantRefused(t, "a frame of them", codec.Frame(b))
		wantRefused(t, "a row of them", codec.Row(b))
	}
	wantRefused(t, "nothing", nil)
	wantRefused(t, "an empty row", codec.Row())
	wantRefused(t, "a great number", []byte("\xff\xff\xff\xff\xff\xff\xff\xff\xff\x01"))
	wantRefused(t, "rubbish", bytes.Repeat([]byte{1}, 1000))
	if _, e := DecodeCmd(s.Export()); e != api.ErrForm {
		t.Errorf("a state is read as a command")
	}
	if _, e := Import(EncodeCmd(full())); e != api.ErrForm {
		t.Errorf("a command is read as a state")
	}
	wantRefused(t, "two commands", twice(EncodeCmd(full())))
	wantRefused(t, "two states", twice(s.Export()))
}

func wholeOf(s *State) whole {
	return whole{s.Applied(), s.Frozen(), s.Held(), s.Swallowed(), s.Places(), s.Region(), s.Image()}
}

// busy is a state that has something of all.
func busy(t *testing.T) *State {
	t.Helper()
	s := home(t)
	script(t, s, `
		peers :2/4 on:7@2147483648,9@3~ -> ok
		floor :2/4 at:6 -> ok
		gc :2/4 at:5 -> ok
		prewrite :2/4 @10 by:e +async with:f,zz e=1 f~ -> ok at:11
		pess :2/4 @11 for:300 g -> ok
		rollback :2/4 @12 h -> ok
		prepare :2/4 #300 +force -> ok`)
	return s
}

func TestStateBytes(t *testing.T) { // P13.5: all of it; the same have the same bytes, others have others
	seen := map[string]int{}
	look := func(what int, x whole) {
		b := row.Write(x, wholeParts)
		s, e := Import(b)
		if e != api.OK || !bytes.Equal(s.Export(), b) || fmt.Sprint(wholeOf(s)) != fmt.Sprint(x) {
			t.Errorf("state %d: error %d of %v", what, e, x)
		}
		if other, there := seen[string(b)]; there {
			t.Errorf("the states %d and %d have the same bytes", what, other)
		}
		seen[string(b)] = what
	}
	base := wholeOf(busy(t))
	look(-1, base)
	for i, turn := range []func(x *whole){
		func(x *whole) { x.applied++ },
		func(x *whole) { x.applied = math.MaxUint64 },
		func(x *whole) { x.held = 1 },
		func(x *whole) { x.held = 0 },
		func(x *whole) { x.held = math.MaxUint64 },
		func(x *whole) { x.frozen, x.held = x.held, 0 },
		func(x *whole) { x.swallowed = nil },
		func(x *whole) { x.swallowed = listOf("3") },
		func(x *whole) { x.swallowed = listOf("3 21") },
		func(x *whole) { x.swallowed = listOf("3 20 21") },
		func(x *whole) { x.swallowed = []uint64{1, math.MaxUint64} },
		func(x *whole) { x.places = nil },
		func(x *whole) { x.places = peers("7@2147483648,9@3") },
		func(x *whole) { x.places = peers("7@2147483647,9@3~") },
		func(x *whole) { x.places = peers("9@3~,7@2147483648") },
		func(x *whole) { x.places = peers("9@3~") },
		func(x *whole) { x.places = peers("1@1,1@1,1@1,1@1,1@1,1@1,1@1,1@1,1@1") },
		func(x *whole) { x.region.ID++ },
		func(x *whole) { x.region.Start = nil },
		func(x *whole) { x.region.End = nil },
		func(x *whole) { x.region.End = key("tt") },
		func(x *whole) { x.region.Epoch.Conf++ },
		func(x *whole) { x.region.Epoch.Version = math.MaxUint64 },
		func(x *whole) { x.region.Epoch = api.Epoch{Conf: 4, Version: 2} },
		func(x *whole) { x.region.Peers = peers("1@1") },
		func(x *whole) { x.region.Peers = peers("1@1,2@2~") },
		func(x *whole) { x.region.Peers = peers("1@1,2@3") },
		func(x *whole) { x.region.Peers = peers("1@1,2@2147483648") }, // chapter 10 does not read it
		func(x *whole) { x.region.Peers = peers("1@1,2@9223372036854775807") },
		func(x *whole) { x.image.Floor++ },
		func(x *whole) { x.image.GC++ },
		func(x *whole) { x.image.Cells = nil },
		func(x *whole) { x.image.Cells = x.image.Cells[1:] },
		func(x *whole) { x.image.Cells[0].Writes[0].Value = nil },
		func(x *whole) { x.image.Cells[0].Writes[0].Commit++ },
		func(x *whole) { x.image.Cells[0].Writes[0].Start++ },
		func(x *whole) { x.image.Cells[1].Writes[0] = api.Write{Kind: api.KindLock, Start: 5, Commit: 7} },
		func(x *whole) { x.image.Cells[2].Lock.Value = nil },
		func(x *whole) { x.image.Cells[2].Lock.Primary, x.image.Cells[2].Lock.Secondaries = key("f"), nil },
		func(x *whole) { x.image.Cells[2].Lock.Secondaries = keys("f,zz,zz") },
		func(x *whole) { x.image.Cells[2].Lock.Secondaries = nil },
		func(x *whole) { x.image.Cells[2].Lock.MinCommit++ },
		func(x *whole) { x.image.Cells[2].Lock.ForUpdate++ },
		func(x *whole) { x.image.Cells[3].Lock.Async = false },
		func(x *whole) { x.image.Cells[3].Lock.Kind = api.KindLock },
	} {
		x := wholeOf(busy(t))
		turn(&x)
		look(i, x)
	}
}

func TestImportRefused(t *testing.T) { // P13.5: what is no state, though it is written like one
	cells := func(x *whole, l ...string) { x.image.Cells = imageOf(l...).Cells }
	for i, turn := range []func(x *whole){
		func(x *whole) { x.frozen = 8 },
		func(x *whole) { x.frozen = x.held },
		func(x *whole) { x.swallowed = listOf("20 3") },
		func(x *whole) { x.swallowed = listOf("3 3") },
		func(x *whole) { x.swallowed = listOf("0 3") },
		func(x *whole) { x.swallowed = listOf("0") },
		func(x *whole) { x.places = peers("1@1,0@1") },
		func(x *whole) { x.places = peers("1@0") },
		func(x *whole) { x.places = peers("1@-1") },
		func(x *whole) { x.places = slices.Repeat(peers("1@1"), 10) },
		func(x *whole) { x.region.ID = 0 },
		func(x *whole) { x.region.Start = key("u") },
		func(x *whole) { x.region.End = key("*65") },
		func(x *whole) { x.region.Peers = nil },
		func(x *whole) { x.region.Peers = peers("2@1,1@2") },
		func(x *whole) { x.region.Peers = peers("1@1~") },
		func(x *whole) { x.region.Peers = peers("1@-1") },
		func(x *whole) { x.region.Start = key("d") }, // c lies outside
		func(x *whole) { x.region.End = key("f") },
		func(x *whole) { x.image.Floor = 1 << 62 },
		func(x *whole) { x.image.GC = 1 << 62 },
		func(x *whole) { cells(x, "d", "c") },
		func(x *whole) { cells(x, "c", "c") },
		func(x *whole) { cells(x, "") },
		func(x *whole) { cells(x, "a") },
		func(x *whole) { cells(x, "t") },
		func(x *whole) { x.image.Cells[0].Writes = nil },
		func(x *whole) { x.image.Cells[0].Writes[0].Kind = api.KindPess },
		func(x *whole) { x.image.Cells[0].Lock.Kind = 1 }, // a lock where none is
		func(x *whole) { x.image.Cells[0].Lock.Async = true },
		func(x *whole) { x.image.Cells[0].Lock.Key = key("c") },
		func(x *whole) { x.image.Cells[2].Locked = false },
		func(x *whole) { x.image.Cells[2].Lock.Key = key("d") },
		// No entry has brought it about, or too few.
		func(x *whole) { x.applied = 0 },
		func(x *whole) { x.applied = 3 },
		func(x *whole) { x.applied, x.places, x.held = 1, nil, 0 },
		func(x *whole) { x.applied, x.swallowed, x.places = 0, nil, nil },
		func(x *whole) { x.applied, x.swallowed, x.held, x.places = 0, nil, 0, peers("1@1") },
		func(x *whole) { x.applied, x.swallowed, x.places, x.held, x.frozen = 0, nil, nil, 0, 7 },
		func(x *whole) { x.region.Epoch.Version = 0 },
	} {
		x := wholeOf(busy(t))
		turn(&x)
		if s, e := Import(row.Write(x, wholeParts)); s != nil || e != api.ErrForm {
			t.Errorf("state %d: error %d of %v", i, e, x)
		}
	}
}

func TestLeastStates(t *testing.T) { // P13.5: states that came to be by as few entries as can be
	s := fresh(t, "1 a m 1/0 1@1")
	copyOf(t, s)
	script(t, s, "prepare :1/0 #9 +force -> ok")
	r, _ := apply(t, s, absorbing("absorb :1/0 #9", "2 m - 0/0 1@1", api.Image{}))
	want(t, "absorb", r.Err, api.OK)
	copyOf(t, s)
	script(t, s, "prepare :1/1 #10 +force -> ok")
	r, _ = apply(t, s, absorbing("absorb :1/1 #10", "10 - a 0/0 1@1", imageOf("B")))
	want(t, "absorb", r.Err, api.OK)
	wantText(t, "the state", tells(copyOf(t, s)), "1 [, ) 1/2: 1@1 frozen 0 held 0 swallowed [2 9 10] places size 3 image 3/2 | B 5@1:1=")
	script(t, s, "peers :1/2 on:1@1 -> ok")
	copyOf(t, s)
	script(t, s, "prepare :1/2 #11 -> ok\nfrozen -> 11")
	copyOf(t, s)
	for _, c := range []string{"peers :1/1 on:1@1 -> ok", "prepare :1/1 #9 -> ok", "prepare :1/1 #9 +force -> ok", "prewrite :1/1 @5 a=1 -> ok at:6"} {
		s = fresh(t, three)
		script(t, s, c)
		copyOf(t, s)
	}
}

// turned is the bytes with one or two of them set to others, cut at times.
func turned(r *rand.Rand, whole []byte) []byte {
	b := bytes.Clone(whole)
	for range 1 + r.IntN(2) {
		b[r.IntN(len(b))] = byte(r.IntN(256) >> r.IntN(8))
	}
	return b[:len(b)-r.IntN(2)*r.IntN(2)]
}

func TestTurnedBytes(t *testing.T) { // P13.5, R7: what is read is written again as the bytes that it was read of
	r := rand.New(rand.NewPCG(13, 5))
	read, refused := 0, 0
	for _, c := range []api.Cmd{full(), {}, of("prewrite :1/1 @5 a=1 b~ c!"), of("split :300/1 m #7 on:4,5@-1~")} {
		whole := EncodeCmd(c)
		for range 20000 {
			b := turned(r, whole)
			x, e := DecodeCmd(b)
			if e != api.OK {
				want(t, "DecodeCmd of turned bytes", e, api.ErrForm)
				refused++
				continue
			}
			read++
			if again := EncodeCmd(x); !bytes.Equal(again, b) {
				t.Fatalf("DecodeCmd(%x): %+v, which is written as %x", b, x, again)
			}
		}
	}
	if read < 1000 || refused < 1000 {
		t.Errorf("%d are read and %d refused: the bytes are chosen badly", read, refused)
	}
}

func TestTurnedStates(t *testing.T) { // P13.5: what is read of turned bytes is a state
	r := rand.New(rand.NewPCG(13, 6))
	read, refused := 0, 0
	for _, s := range []*State{busy(t), home(t), fresh(t, three)} {
		whole := s.Export()
		for range 20000 {
			b := turned(r, whole)
			x, e := Import(b)
			if e != api.OK {
				want(t, "Import of turned bytes", e, api.ErrForm)
				refused++
				continue
			}
			read++
			if again := x.Export(); !bytes.Equal(again, b) {
				t.Fatalf("Import(%x): %s, which is written as %x", b, tells(x), again)
			}
			wantSound(t, x)
		}
	}
	if read < 500 || refused < 1000 {
		t.Errorf("%d are read and %d refused: the bytes are chosen badly", read, refused)
	}
}

// wantSound: what a state tells is what one can tell.
func wantSound(t *testing.T, s *State) {
	t.Helper()
	r := s.Region()
	if _, e := mvcc.Load(s.Image()); e != api.OK || region.Check(r) != api.OK || s.Frozen() != 0 && s.Held() != 0 || s.Applied() == 0 && s.Frozen()+s.Held() > 0 {
		t.Errorf("no state: %s", tells(s))
	}
	for _, c := range s.Image().Cells {
		if !region.Covers(r, c.Key) {
			t.Errorf("a key outside: %s", tells(s))
		}
	}
	if l := s.Swallowed(); !slices.IsSorted(l) || len(slices.Compact(s.Swallowed())) != len(l) {
		t.Errorf("swallowed: %v", l)
	}
}

func TestBytesOfMany(t *testing.T) { // P13.5, R1
	const n = 1 << 14
	x := api.Image{}
	c := api.Cmd{}
	for i := range n {
		k := fmt.Appendf(nil, "%06d", i)
		x.Cells = append(x.Cells, api.Cell{Key: k, Writes: []api.Write{{Kind: api.KindPut, Start: 5, Commit: 9, Value: k}, {Kind: api.KindRollback, Start: 3, Commit: 3}}})
		c.Keys = append(c.Keys, k)
	}
	s, e := New(regionOf(three), x)
	want(t, "New", e, api.OK)
	o := copyOf(t, s)
	if o.Size() != n*15 {
		t.Errorf("Size: %d", o.Size())
	}
	c.Image = x
	again, e := DecodeCmd(EncodeCmd(c))
	if e != api.OK || len(again.Keys) != n || len(again.Image.Cells) != n || !bytes.Equal(EncodeCmd(again), EncodeCmd(c)) {
		t.Errorf("a command with very many keys: error %d", e)
	}
}
