package pd

import (
	"bytes"
	"fmt"
	"math"
	"math/rand/v2"
	"reflect"
	"slices"
	"testing"

	"regatta/api"
	"regatta/codec"
	"regatta/region"
	"regatta/row"
)

// deep is the same in new memory; it is a value that can be set.
func deep(v reflect.Value) reflect.Value {
	o := reflect.New(v.Type()).Elem()
	o.Set(v)
	switch v.Kind() {
	case reflect.Struct:
		for i := range v.NumField() {
			o.Field(i).Set(deep(v.Field(i)))
		}
	case reflect.Slice:
		if v.IsNil() {
			return o
		}
		o.Set(reflect.MakeSlice(v.Type(), v.Len(), v.Len()))
		for i := range v.Len() {
			o.Index(i).Set(deep(v.Index(i)))
		}
	}
	return o
}

// turns sets each part of v, one by one, to other things, asks look at each, and sets it back.
func turns(v reflect.Value, look func()) {
	was := reflect.ValueOf(v.Interface())
	try := func(x any) {
		v.Set(reflect.ValueOf(x).Convert(v.Type()))
		look()
		v.Set(was)
	}
	switch v.Kind() {
	case reflect.Bool:
		try(!v.Bool())
	case reflect.Int:
		for _, n := range []int{0, 1, 127, 128, -1, 1 << 31, 1 << 32, math.MinInt, math.MaxInt} {
			try(n)
		}
	case reflect.Uint8:
		try(byte(v.Uint()) + 1)
	case reflect.Uint64:
		for _, n := range []uint64{0, 1, 127, 128, 1 << 62, 1 << 63, math.MaxUint64} {
			try(n)
		}
	case reflect.Struct:
		for i := range v.NumField() {
			turns(v.Field(i), look)
		}
	case reflect.Slice:
		none := reflect.Zero(v.Type().Elem())
		for i := range v.Len() + 1 {
			try(reflect.AppendSlice(reflect.Append(deep(v.Slice(0, i)), none), v.Slice(i, v.Len())).Interface()) // one more
			try(deep(v.Slice(0, i)).Interface())                                                                 // only the first
			try(deep(v.Slice(i, v.Len())).Interface())
		}
		for i := range v.Len() {
			turns(v.Index(i), look)
		}
	}
}

// full is a command that has something in each field.
func full() api.PdCmd {
	return api.PdCmd{Kind: api.PdMerge, N: 300, TS: 4, TTL: 5, Store: 2, Commit: true,
		Region: regionOf("7 mm q 3/4 8@9~,10@11"), Other: regionOf("6 c mm 1/2 12@13")}
}

func TestCmdBytes(t *testing.T) { // P16.3: of any fields; the same have the same bytes, others have others
	texts := map[string]string{}
	look := func(c api.PdCmd) {
		text, b := fmt.Sprint(c), EncodeCmd(c)
		if other, there := texts[string(b)]; there && other != text {
			t.Fatalf("%s and %s have the same bytes", text, other)
		}
		texts[string(b)] = text
		x, e := DecodeCmd(b)
		if e != api.OK || fmt.Sprint(x) != text {
			t.Fatalf("%s is read as %+v, error %d", text, x, e)
		}
		if !bytes.Equal(EncodeCmd(x), b) {
			t.Fatalf("%s has other bytes when it was read", text)
		}
	}
	for _, c := range []api.PdCmd{full(), {}, of("clock"), of("region 1 - - 1/1")} {
		look(c)
		v := deep(reflect.ValueOf(c))
		turns(v, func() { look(v.Interface().(api.PdCmd)) })
		want(t, "the command, when it is set back", fmt.Sprint(v.Interface()), fmt.Sprint(c))
	}
	if len(texts) < 200 {
		t.Errorf("%d commands were looked at", len(texts))
	}
}

func TestCmdBytesOfNothing(t *testing.T) { // P16.3, R3: nil and an empty list mean the same
	none := api.Region{Start: []byte{}, End: []byte{}, Peers: []api.Peer{}}
	if !bytes.Equal(EncodeCmd(api.PdCmd{Region: none, Other: none}), EncodeCmd(api.PdCmd{})) {
		t.Errorf("EncodeCmd tells nil from an empty list")
	}
}

// wantRefused: no driver, and no command, is read of these bytes.
func wantRefused(t *testing.T, what string, b []byte) {
	t.Helper()
	if p, e := Import(b); p != nil || e != api.ErrForm {
		t.Errorf("Import of %s: error %d", what, e)
	}
	if c, e := DecodeCmd(b); e != api.ErrForm || !reflect.ValueOf(c).IsZero() {
		t.Errorf("DecodeCmd of %s: %+v, error %d", what, c, e)
	}
}

// twice is a row with all fields of this one, and all of them again.
func twice(b []byte) []byte {
	fields, _ := codec.TakeRow(b)
	return codec.Row(append(fields, fields...)...)
}

func TestBytesRefused(t *testing.T) { // P16.3: ErrForm, and nothing beside it
	p := busy(t)
	for _, b := range [][]byte{p.Export(), EncodeCmd(full()), EncodeCmd(api.PdCmd{}), New(1).Export()} {
		for n := range b {
			wantRefused(t, fmt.Sprint(n, " bytes of them"), b[:n])
		}
		for _, more := range []string{"\x00", "\x01", "\xff", string(b)} {
			wantRefused(t, "them with more behind", append(bytes.Clone(b), more...))
		}
		for _, ahead := range []string{"\x00", "\x01", "\xff"} {
			wantRefused(t, "them with more ahead", append([]byte(ahead), b...))
		}
		wantRefused(t, "a frame of them", codec.Frame(b))
		wantRefused(t, "a row of them", codec.Row(b))
		wantRefused(t, "two of them", twice(b))
	}
	wantRefused(t, "nothing", nil)
	wantRefused(t, "an empty row", codec.Row())
	wantRefused(t, "a great number", []byte("\xff\xff\xff\xff\xff\xff\xff\xff\xff\x01"))
	wantRefused(t, "rubbish", bytes.Repeat([]byte{1}, 1000))
	if _, e := DecodeCmd(p.Export()); e != api.ErrForm {
		t.Errorf("a driver is read as a command")
	}
	if _, e := Import(EncodeCmd(full())); e != api.ErrForm {
		t.Errorf("a command is read as a driver")
	}
}

// wholeOf is what the driver's bytes say.
func wholeOf(t *testing.T, p *Driver) whole {
	t.Helper()
	x, ok := row.Read(p.Export(), wholeParts)
	if !ok {
		t.Fatal("no driver's bytes")
	}
	return x
}

func TestDriverBytes(t *testing.T) { // P16.3: all of it; the same have the same bytes, others have others
	seen := map[string]int{}
	look := func(what int, x whole) {
		b := row.Write(x, wholeParts)
		p, e := Import(b)
		if e != api.OK || !bytes.Equal(p.Export(), b) || fmt.Sprint(wholeOf(t, p)) != fmt.Sprint(x) {
			t.Errorf("driver %d: error %d of %v", what, e, x)
		}
		if other, there := seen[string(b)]; there {
			t.Errorf("the drivers %d and %d have the same bytes", what, other)
		}
		seen[string(b)] = what
		if e == api.OK {
			wantSound(t, p)
		}
	}
	look(-1, wholeOf(t, busy(t)))
	for i, turn := range []func(x *whole){
		func(x *whole) { x.given = 0 },
		func(x *whole) { x.given++ },
		func(x *whole) { x.given = math.MaxUint64 },
		func(x *whole) { x.limit = 0 },
		func(x *whole) { x.limit = math.MaxUint64 },
		func(x *whole) { x.safe = 0 },
		func(x *whole) { x.safe-- },
		func(x *whole) { x.safe, x.registered = math.MaxUint64, nil },
		func(x *whole) { x.clock-- }, // one is registered till 3
		func(x *whole) { x.clock, x.registered = far-1, nil },
		func(x *whole) { x.heard = nil },
		func(x *whole) { x.heard = x.heard[1:] },
		func(x *whole) { x.heard[0].store = 1 },
		func(x *whole) { x.heard[1].store = 3 },
		func(x *whole) { x.heard[1].clock = 0 },
		func(x *whole) { x.heard[1].clock = 3 },
		func(x *whole) { x.regions = nil },
		func(x *whole) { x.regions = x.regions[1:] },
		func(x *whole) { x.regions[0].ID = 100 },
		func(x *whole) { x.regions[0].Start = key("a") },
		func(x *whole) { x.regions[1].End = key("t") },
		func(x *whole) { x.regions[2].End = key("x") },
		func(x *whole) { x.regions[1].Epoch.Conf = 0 },
		func(x *whole) { x.regions[1].Epoch.Version = math.MaxUint64 },
		func(x *whole) { x.regions[0].Peers[1].Store = math.MaxInt },
		func(x *whole) { x.regions[0].Peers[1].Learner = false },
		func(x *whole) { x.regions[0].Peers[1].ID++ },
		func(x *whole) { x.registered = x.registered[1:] },
		func(x *whole) { x.registered = nil },
		func(x *whole) { x.registered[0].ts++ },
		func(x *whole) { x.registered[3].ts = math.MaxUint64 },
		func(x *whole) { x.registered[1].until-- },
		func(x *whole) { x.registered[1].until = 3 + api.MaxTTL },
		func(x *whole) { x.registered[2].until = 3 },
		func(x *whole) { x.merges = nil },
		func(x *whole) { x.merges = x.merges[1:] },
		func(x *whole) { x.merges[0].id = 1 },
		func(x *whole) { x.merges[3].id = math.MaxUint64 },
		func(x *whole) { x.merges[0].status = api.MergeBack },
		func(x *whole) { x.merges[1].status = api.MergeCommit },
		func(x *whole) { x.merges[1].status = api.MergeBack },
		func(x *whole) { x.merges[2].status = api.MergeCommit },
		func(x *whole) { x.merges[1].status, x.merges[0].status = api.MergeBack, api.MergeOpen },
		func(x *whole) { x.merges[0].source.ID = 99 },
		func(x *whole) { x.merges[1].source, x.merges[1].target = x.merges[1].target, x.merges[1].source },
		func(x *whole) { x.merges[1].target.Epoch.Conf++ },
		func(x *whole) { x.merges[1].target.End = nil },
		func(x *whole) { x.merges[1].target.Peers[0].ID-- },
	} {
		x := wholeOf(t, busy(t))
		turn(&x)
		look(i, x)
	}
}

func TestImportRefused(t *testing.T) { // P16.3: what no commands bring about, though it is written like a driver
	for i, turn := range []func(x *whole){
		func(x *whole) { x.safe++ }, // 41 is registered
		func(x *whole) { x.safe = math.MaxUint64 },
		func(x *whole) { x.clock++ }, // 41 would have gone
		func(x *whole) { x.clock = 0 },
		func(x *whole) { x.clock, x.heard, x.registered = 0, nil, []entry{{50, 0}} },
		func(x *whole) { x.clock, x.registered = far, nil },
		func(x *whole) { x.clock, x.registered = math.MaxUint64, nil },
		func(x *whole) { x.clock, x.registered = math.MaxUint64, []entry{{50, 5}} },
		func(x *whole) { x.heard[0].store = 0 },
		func(x *whole) { x.heard[0].store = -1 },
		func(x *whole) { x.heard[1].store = 6 },
		func(x *whole) { x.heard[0].store = 5 }, // twice
		func(x *whole) { x.heard = slices.Repeat(x.heard[:1], 2) },
		func(x *whole) { slices.Reverse(x.heard) },
		func(x *whole) { x.heard[0].clock = 4 },
		func(x *whole) { x.heard[0].clock = math.MaxUint64 },
		func(x *whole) { slices.Reverse(x.regions) },
		func(x *whole) { x.regions = append(x.regions, x.regions[2]) },
		func(x *whole) { x.regions[0].ID = 0 },
		func(x *whole) { x.regions[0].ID = x.regions[1].ID },
		func(x *whole) { x.regions[0].End = key("mm") },
		func(x *whole) { x.regions[0].End, x.regions[1].Epoch.Version = key("mm"), 3 },
		func(x *whole) { x.regions[0].End = nil },
		func(x *whole) { x.regions[2].Start = key("p") },
		func(x *whole) { x.regions[1].End = key("m") },
		func(x *whole) { x.regions[1].Peers = nil },
		func(x *whole) { x.regions[1].Peers[0].Store = 0 },
		func(x *whole) { x.regions[0].Peers[0].Learner = true },
		func(x *whole) {
			x.regions = nil
			for i := range uint64(api.MaxRegions + 1) {
				x.regions = append(x.regions, regionOf(fmt.Sprintf("%d %02d %02d 1/1", i+1, i, i+1)))
			}
		},
		func(x *whole) { slices.Reverse(x.registered) },
		func(x *whole) { x.registered[1].ts = 41 },
		func(x *whole) { x.registered = slices.Insert(x.registered, 1, x.registered[0]) },
		func(x *whole) { x.registered[0].ts = 40 },
		func(x *whole) { x.registered[0].ts, x.safe = 0, 0 },
		func(x *whole) { x.registered[0].until = 2 },
		func(x *whole) { x.registered[0].until = 4 + api.MaxTTL },
		func(x *whole) { x.registered[0].until = math.MaxUint64 },
		func(x *whole) {
			for i := range uint64(maxRegistered - 3) {
				x.registered = append(x.registered, entry{1000 + i, 9})
			}
		},
		func(x *whole) { slices.Reverse(x.merges) },
		func(x *whole) { x.merges[0].id = 0 },
		func(x *whole) { x.merges[0].id = 41 },
		func(x *whole) { x.merges = slices.Insert(x.merges, 0, x.merges[0]) },
		func(x *whole) { x.merges[0].status = api.MergeOpen }, // two with one region
		func(x *whole) { x.merges[2].status = api.MergeOpen },
		func(x *whole) { x.merges[0].status = api.MergeNone },
		func(x *whole) { x.merges[1].status = api.MergeNone },
		func(x *whole) { x.merges[0].status = api.MergeBack + 1 },
		func(x *whole) { x.merges[0].status = -1 },
		func(x *whole) { x.merges[0].status = math.MinInt },
		func(x *whole) { x.merges[0].source.ID = 0 },
		func(x *whole) { x.merges[0].source.ID = x.merges[0].target.ID },
		func(x *whole) { x.merges[0].source.Start = key("n") },
		func(x *whole) { x.merges[0].source.Peers[0].Store = 2 },
		func(x *whole) {
			x.merges = nil
			for i := range uint64(maxOpen + 1) {
				x.merges = append(x.merges, merge{i + 1, regionOf(fmt.Sprintf("%d m - 1/1", 2*i+1)), regionOf(fmt.Sprintf("%d - m 1/1", 2*i+2)), api.MergeOpen})
			}
		},
	} {
		x := wholeOf(t, busy(t))
		turn(&x)
		if p, e := Import(row.Write(x, wholeParts)); p != nil || e != api.ErrForm {
			t.Errorf("driver %d: error %d of %v", i, e, x)
		}
	}
}

func TestTheSameDriverHasTheSameBytes(t *testing.T) { // P16.3: in whatever order it came to be so
	a, b := New(1), New(0)
	script(t, a, `
		id 3 -> ok 1
		store 1 -> ok
		store 3 -> ok
		register 5 9 -> ok
		register 7 3 -> ok
		register 6 4 -> ok
		register 9 9 -> ok
		register 8 1 -> ok
		region 1 - m 1/2 -> ok
		region 7 m - 1/2 -> ok
		merge 1: 7 m - 1/2 into 1 - m 1/2 -> ok open
		decide 1 back -> ok back
		merge 2: 7 m - 1/2 into 1 - m 1/2 -> ok open
		safe 4 -> ok 4
		window 50 -> ok 50`)
	script(t, b, `
		window 50 -> ok 50
		window 20 -> ok 50
		safe 4 -> ok 4
		merge 2: 3 m - 1/2 into 1 n m 1/2 -> arg
		merge 1: 7 m - 1/2 into 1 - m 1/2 -> ok open
		decide 1 back -> ok back
		decide 1 commit -> ok back
		merge 2: 7 m - 1/2 into 1 - m 1/2 -> ok open
		region 9 - - 1/1 -> ok
		region 7 m - 1/2 -> ok
		region 1 - n 1/2 -> stale
		region 1 - m 1/2 -> ok
		register 8 1 -> ok
		register 9 2 -> ok
		register 20 7 -> ok
		register 6 4 -> ok
		register 7 3 -> ok
		register 9 9 -> ok
		register 7 1 -> ok
		release 20 -> ok
		register 5 9 -> ok
		store 3 -> ok
		store 3 -> ok
		store 1 -> ok
		id 1 -> ok 1
		id 2 -> ok 2`)
	if !bytes.Equal(a.Export(), b.Export()) {
		t.Errorf("%x and %x are of drivers that are the same", a.Export(), b.Export())
	}
	c := New(3)
	for _, l := range []string{"id 1 -> ok 3", "store 1 -> ok", "clock -> ok 1", "register 5 9 -> ok", "merge 1: 7 m - 1/2 into 1 - m 1/2 -> ok open"} {
		script(t, c, l)
		if bytes.Equal(a.Export(), c.Export()) {
			t.Errorf("two drivers that are not the same have the same bytes")
		}
	}
}

// turned is the bytes with one or two of them set to others, cut at times.
func turned(r *rand.Rand, whole []byte) []byte {
	b := bytes.Clone(whole)
	for range 1 + r.IntN(2) {
		b[r.IntN(len(b))] = byte(r.IntN(256) >> r.IntN(8))
	}
	return b[:len(b)-r.IntN(2)*r.IntN(2)]
}

func TestTurnedCommands(t *testing.T) { // P16.3, R7: what is read is written again as the bytes that it was read of
	r := rand.New(rand.NewPCG(16, 5))
	read, refused := 0, 0
	for _, c := range []api.PdCmd{full(), {}, of("region 300 a b 1/1 4@1,5@2~")} {
		whole := EncodeCmd(c)
		for range 20000 {
			b := turned(r, whole)
			x, e := DecodeCmd(b)
			if e != api.OK {
				want(t, "DecodeCmd of turned bytes", e, api.ErrForm)
				refused++
				continue
			}
			read++
			if again := EncodeCmd(x); !bytes.Equal(again, b) {
				t.Fatalf("DecodeCmd(%x): %+v, which is written as %x", b, x, again)
			}
		}
	}
	if read < 1000 || refused < 1000 {
		t.Errorf("%d are read and %d refused: the bytes are chosen badly", read, refused)
	}
}

func TestTurnedDrivers(t *testing.T) { // P16.3: what is read of turned bytes is a driver
	r := rand.New(rand.NewPCG(16, 6))
	read, refused := 0, 0
	for _, p := range []*Driver{busy(t), New(1), New(300)} {
		whole := p.Export()
		for range 20000 {
			b := turned(r, whole)
			x, e := Import(b)
			if e != api.OK {
				want(t, "Import of turned bytes", e, api.ErrForm)
				refused++
				continue
			}
			read++
			if again := x.Export(); !bytes.Equal(again, b) {
				t.Fatalf("Import(%x): %s, which is written as %x", b, tells(x), again)
			}
			wantSound(t, x)
			script(t, x, fmt.Sprintf("clock -> ok %d", x.Clock()+1))
			wantSound(t, x)
		}
	}
	if read < 500 || refused < 1000 {
		t.Errorf("%d are read and %d refused: the bytes are chosen badly", read, refused)
	}
}

// wantSound: what a driver tells is what one can tell (P16.4).
func wantSound(t *testing.T, p *Driver) {
	t.Helper()
	l := p.Regions()
	for i, r := range l {
		if region.Check(r) != api.OK || i > 0 && bytes.Compare(l[i-1].Start, r.Start) >= 0 {
			t.Errorf("the regions: %s", tells(p))
		}
		for _, o := range l[:i] {
			if region.Overlap(o, r) || o.ID == r.ID {
				t.Errorf("two regions overlap, or have one number: %s", tells(p))
			}
		}
	}
	ts := p.Registered()
	for i, n := range ts {
		if n <= p.Safe() || i > 0 && n <= ts[i-1] {
			t.Errorf("registered: %s", tells(p))
		}
	}
	if len(l) > api.MaxRegions || len(ts) > maxRegistered {
		t.Errorf("too many: %s", tells(p))
	}
	if s := p.Stores(math.MaxUint64); !slices.IsSorted(s) || len(s) > 0 && (s[0] < 1 || s[len(s)-1] > api.MaxStores) {
		t.Errorf("stores: %s", tells(p))
	}
}

func TestBytesOfMany(t *testing.T) { // P16.3, R1
	p := New(1)
	const n = 1 << 14
	for i := range uint64(n) {
		p.Do(api.PdCmd{Kind: api.PdMerge, N: i + 1, Region: regionOf("7 m - 1/2"), Other: regionOf("1 - m 1/2")})
		p.Do(api.PdCmd{Kind: api.PdDecide, N: i + 1, Commit: i%3 == 0})
	}
	o := copyOf(t, p)
	wantMerge(t, o, n, api.MergeCommit, "7 m - 1/2", "1 - m 1/2")
	wantMerge(t, o, n-1, api.MergeBack, "7 m - 1/2", "1 - m 1/2")
	wantNoMerge(t, o, n+1)
	c := full()
	for i := range uint64(n) {
		c.Region.Peers = append(c.Region.Peers, api.Peer{ID: i, Store: int(i)})
	}
	c.Other.Start = bytes.Repeat([]byte("x"), n)
	x, e := DecodeCmd(EncodeCmd(c))
	if e != api.OK || fmt.Sprint(x) != fmt.Sprint(c) {
		t.Errorf("a command of many peers: error %d", e)
	}
}
