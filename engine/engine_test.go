package engine

import (
	"fmt"
	"math"
	"slices"
	"strings"
	"testing"

	"regatta/api"
	"regatta/disk"
)

func TestExamples(t *testing.T) { // the rows of the chapter's table, one behind the other
	d := disk.New()
	e := opened(t, d)
	write(t, e, "+a=1 +b=2 -a")
	lacks(t, e, "a")
	l, code := e.Scan(nil, nil, 9)
	want(t, "Scan(nothing, nothing, 9)", code, api.OK)
	wantText(t, "Scan(nothing, nothing, 9)", text(l), "b=2")

	write(t, e, "*a,b +c=3")
	l, code = e.Scan([]byte("a"), []byte("c"), 9)
	want(t, "Scan(a, c, 9)", code, api.OK)
	wantText(t, "Scan(a, c, 9)", text(l), "b=2")

	flush(t, e, 1)
	compact(t, e, 1)

	d.Arm(0)
	want(t, "Write(put d 4)", e.Write(ops("+d=4")), api.ErrDead)
	_, _, code = e.Get([]byte("b"))
	want(t, "Get(b)", code, api.ErrDead)

	d.Crash(nil)
	e = opened(t, d)
	lacks(t, e, "d")
	gets(t, e, "b", "2")
}

func TestWriteRefused(t *testing.T) { // P6.2: and nothing of the batch is done
	key, value := make([]byte, 4*api.MaxKey), make([]byte, api.MaxRecord/4)
	longKey, longValue := append(slices.Clone(key), 0), append(slices.Clone(value), 0)
	for what, o := range map[string]api.Op{
		"no kind":                    {Key: []byte("a")},
		"a kind below all":           {Kind: -1, Key: []byte("a")},
		"the least kind":             {Kind: math.MinInt, Key: []byte("a")},
		"a kind above all":           {Kind: 4, Key: []byte("a")},
		"the greatest kind":          {Kind: math.MaxInt, Key: []byte("a")},
		"a kind that is one of 256":  {Kind: 256 + api.OpPut, Key: []byte("a")},
		"a put without a key":        {Kind: api.OpPut, Value: []byte("1")},
		"a delete without a key":     {Kind: api.OpDelete, Value: []byte("1"), End: []byte("b")},
		"a put of a long key":        {Kind: api.OpPut, Key: longKey},
		"a delete of a long key":     {Kind: api.OpDelete, Key: longKey},
		"a put of a long value":      {Kind: api.OpPut, Key: []byte("a"), Value: longValue},
		"a delete with a long value": {Kind: api.OpDelete, Key: []byte("a"), Value: longValue},
		"a wipe with a long value":   {Kind: api.OpWipe, Value: longValue},
	} {
		d := disk.New()
		e := opened(t, d)
		write(t, e, "+k=1")
		d.Arm(0)
		for _, batch := range [][]api.Op{{o}, append(ops("+x=1 -k *,"), o), append([]api.Op{o}, ops("+x=1 -k")...), {{Kind: api.OpWipe, End: make([]byte, api.MaxRecord)}, o}} {
			want(t, what, e.Write(batch), api.ErrArg)
		}
		has(t, e, "k=1")
		if d.Dead() {
			t.Errorf("%s: the disk was written to", what)
		}
	}
}

func TestWriteAtItsLimits(t *testing.T) { // P6.2
	e := opened(t, disk.New())
	key, value := strings.Repeat("k", 4*api.MaxKey), strings.Repeat("v", api.MaxRecord/4)
	write(t, e, "+"+key+"="+value, "+b=", "-"+strings.Repeat("x", 4*api.MaxKey))
	has(t, e, "b= "+key+"="+value)
	write(t, e, "-"+key)
	has(t, e, "b=")
}

func TestWipeHasNoLimits(t *testing.T) { // P6.2: of its ends nothing is refused
	e := opened(t, disk.New())
	long := strings.Repeat("c", 4*api.MaxKey+1)
	write(t, e, "+b=1 +c=2 +d=3", "*"+long+",e")
	has(t, e, "b=1 c=2")
	write(t, e, "+d=3", "*c,"+long)
	has(t, e, "b=1 d=3")
	write(t, e, "*,")
	has(t, e, "")
}

func TestWriteFull(t *testing.T) { // P6.2: a batch that is as great as a record, and one byte more
	room := api.MaxRecord - len(recordOf([]api.Op{{Kind: api.OpWipe, End: make([]byte, 1<<19)}})) + 1<<19
	d := disk.New()
	e := opened(t, d)
	write(t, e, "+k=1")
	want(t, "a batch as great as a record", e.Write([]api.Op{{Kind: api.OpWipe, Key: []byte("x"), End: make([]byte, room-1)}}), api.OK)
	d.Arm(0)
	want(t, "a batch greater by one", e.Write([]api.Op{{Kind: api.OpWipe, Key: []byte("x"), End: make([]byte, room)}}), api.ErrFull)
	var batch []api.Op
	for i := range 5 {
		batch = append(batch, api.Op{Kind: api.OpPut, Key: []byte{byte(i)}, Value: make([]byte, api.MaxRecord/4)})
	}
	want(t, "a batch far too great", e.Write(batch), api.ErrFull)
	has(t, e, "k=1")
	if d.Dead() {
		t.Errorf("the disk was written to")
	}
	d.Crash(nil)
	has(t, opened(t, d), "k=1")
}

func TestWriteAlwaysFits(t *testing.T) { // P6.2: 1,000 Ops, MaxRecord / 2 bytes of keys and values, however they are shared out
	for _, kind := range []int{api.OpPut, api.OpDelete, api.OpWipe} {
		var batch []api.Op
		for i := range 1000 {
			o := api.Op{Kind: kind, Key: []byte(fmt.Sprintf("%04d", i)), End: []byte{0}}
			if kind == api.OpPut {
				o.Value = make([]byte, api.MaxRecord/2/1000-4)
			}
			batch = append(batch, o)
		}
		e := opened(t, disk.New())
		want(t, fmt.Sprintf("1,000 Ops of kind %d", kind), e.Write(batch), api.OK)
	}
	e := opened(t, disk.New())
	value := strings.Repeat("v", api.MaxRecord/4)
	write(t, e, "+a="+value+" +b="+value[2:])
	has(t, e, "a="+value+" b="+value[2:])
}

func TestWhatDoesNotCount(t *testing.T) { // P6.2: of an Op of each kind, but that a long value is refused
	e := opened(t, disk.New())
	var batch []api.Op
	for range 9 { // what is kept of them fits into a record, all that they have doesn't
		batch = append(batch, api.Op{Kind: api.OpDelete, Key: []byte("x"), Value: make([]byte, api.MaxRecord/4)})
	}
	batch = append(batch, api.Op{Kind: api.OpPut, Key: []byte("a"), Value: []byte("1"), End: make([]byte, api.MaxRecord)})
	want(t, "Write", e.Write(batch), api.OK)
	want(t, "Write", e.Write([]api.Op{{Kind: api.OpWipe, Key: []byte("b"), Value: []byte("a"), End: []byte("c")}}), api.OK)
	has(t, e, "a=1")
}

func TestOpsInOrder(t *testing.T) { // P6.2
	for batch, told := range map[string]string{
		"":                         "b=2 c=3 d=4",
		"+a=1":                     "a=1 b=2 c=3 d=4",
		"+b=1":                     "b=1 c=3 d=4",
		"+b=":                      "b= c=3 d=4",
		"+b=1 +b=5":                "b=5 c=3 d=4",
		"-b":                       "c=3 d=4",
		"-b -b":                    "c=3 d=4",
		"-x":                       "b=2 c=3 d=4",
		"-bb":                      "b=2 c=3 d=4",
		"+b=1 -b":                  "c=3 d=4",
		"-b +b=1":                  "b=1 c=3 d=4",
		"+b\x00=1 -b":              "b\x00=1 c=3 d=4",
		"*b,c":                     "c=3 d=4",
		"*,c":                      "c=3 d=4",
		"*c,":                      "b=2",
		"*,":                       "",
		"*c,d":                     "b=2 d=4",
		"*bb,cc":                   "b=2 d=4",
		"*c,c":                     "b=2 c=3 d=4",
		"*d,b":                     "b=2 c=3 d=4",
		"*x,":                      "b=2 c=3 d=4",
		"*,a":                      "b=2 c=3 d=4",
		"*, +c=5":                  "c=5",
		"+c=5 *,":                  "",
		"+cc=1 *c,d +c\x00=2":      "b=2 c\x00=2 d=4",
		"+x=1 *b,c -d +b=7 +b=8":   "b=8 c=3 x=1",
		"+b\xff=1 *b,b\xff":        "b\xff=1 c=3 d=4",
		"+b\xff\x00=1 *b\xff\x00,": "b=2",
	} {
		in := func(place string, e *Engine) {
			write(t, e, batch)
			if got := all(t, e); got != told {
				t.Errorf("%q over b=2 c=3 d=4 (%s): %q; want %q", batch, place, got, told)
			}
			has(t, e, told)
			has(t, opened(t, e.disk), told)
		}
		e := opened(t, disk.New())
		write(t, e, "+d=4 +b=2 +c=3")
		in("in memory", e)

		e = opened(t, disk.New())
		write(t, e, "+d=4 +b=2 +c=3")
		flush(t, e, 1)
		in("in a table", e)

		e = opened(t, disk.New())
		write(t, e, "+d=4 +b=9 +x=1")
		flush(t, e, 1)
		write(t, e, "+b=2 -x")
		flush(t, e, 2)
		write(t, e, "+c=3")
		in("in two tables and in memory", e)
	}
}

func TestOver(t *testing.T) { // P6.2, P6.4: from an error of the disk on, in whatever call it was met
	for what, call := range map[string]func(e *Engine) api.Errno{
		"Write":   func(e *Engine) api.Errno { return e.Write(ops("+d=4")) },
		"Flush":   (*Engine).Flush,
		"Compact": (*Engine).Compact,
	} {
		for left := 0; ; left++ {
			d := disk.New()
			e := opened(t, d)
			write(t, e, "+a=1 +b=2")
			flush(t, e, 1)
			write(t, e, "+b=3", "-a")
			flush(t, e, 2)
			write(t, e, "+c=5")
			s := e.Snap()
			d.Arm(left)
			code := call(e)
			if !d.Dead() {
				want(t, what, code, api.OK)
				if left == 0 {
					t.Errorf("%s asks nothing of the disk", what)
				}
				break
			}
			want(t, what+" on a disk that dies", code, api.ErrDead)
			isOver(t, e)
			wantText(t, "a Snap of before", text(s.Scan(nil, nil, 9)), "b=3 c=5")
			d.Crash(nil)
			isOver(t, e)
			has(t, opened(t, d), "b=3 c=5")
		}
	}
}

func TestDeadByOthers(t *testing.T) { // P6.2, P6.4: the engine is over when it meets that, and not ahead of it
	for what, call := range map[string]func(e *Engine) api.Errno{
		"Write":   func(e *Engine) api.Errno { return e.Write(ops("+d=4")) },
		"Flush":   (*Engine).Flush,
		"Compact": (*Engine).Compact,
	} {
		d := disk.New()
		e := opened(t, d)
		write(t, e, "+a=1")
		flush(t, e, 1)
		write(t, e, "+b=2")
		flush(t, e, 2)
		write(t, e, "+c=3")
		d.Arm(0)
		want(t, "a change that is not the engine's", d.Write("x", nil), api.ErrDead)
		has(t, e, "a=1 b=2 c=3")
		counts(t, e, 2)
		want(t, what, call(e), api.ErrDead)
		isOver(t, e)
		d.Crash(nil)
		has(t, opened(t, d), "a=1 b=2 c=3")
	}
}

func TestFullDisk(t *testing.T) { // P6.2, P6.4: it is the disk's error, and nothing is lost
	filled := func() (*disk.Disk, *Engine) {
		d := disk.New()
		e := opened(t, d)
		write(t, e, "+a=1 +b=2")
		flush(t, e, 1)
		write(t, e, "+c=3")
		want(t, "filling the disk", d.Write("filler", make([]byte, api.MaxDisk-d.Size())), api.OK)
		return d, e
	}
	for what, call := range map[string]func(e *Engine) api.Errno{
		"Write": func(e *Engine) api.Errno { return e.Write(ops("+d=4")) },
		"Flush": (*Engine).Flush,
	} {
		d, e := filled()
		want(t, what+" on a full disk", call(e), api.ErrFull)
		isOver(t, e)
		has(t, opened(t, d), "a=1 b=2 c=3")
		d.Remove("filler")
		e = opened(t, d)
		has(t, e, "a=1 b=2 c=3")
		write(t, e, "+d=4")
		flush(t, e, 2)
		compact(t, e, 1)
		has(t, opened(t, d), "a=1 b=2 c=3 d=4")
	}
}

func TestTornEndOnAFullDisk(t *testing.T) { // P6.1: it is cut off all the same
	d := disk.New()
	e := opened(t, d)
	write(t, e, "+a=1", "+b=2")
	d.Arm(2) // the log's Sync of the last segment, the Write of the next one
	want(t, "Write", e.Write(ops("+c="+strings.Repeat("v", 100))), api.ErrDead)
	d.Crash([]int{50})
	want(t, "filling the disk", d.Write("filler", make([]byte, api.MaxDisk-d.Size())), api.OK)
	has(t, opened(t, d), "a=1 b=2")
}

func TestGet(t *testing.T) { // P6.3
	e := opened(t, disk.New())
	lacks(t, e, "a")
	write(t, e, "+a=1 +c= +\x00=0")
	flush(t, e, 1)
	write(t, e, "+b=2 +\xff=9")
	gets(t, e, "a", "1")
	gets(t, e, "b", "2")
	gets(t, e, "c", "")
	gets(t, e, "\x00", "0")
	gets(t, e, "\xff", "9")
	for _, key := range []string{"", "a\x00", "aa", "d", "\x00\x00", "\xff\xff", strings.Repeat("a", api.MaxRecord)} {
		lacks(t, e, key)
	}
}

func TestScan(t *testing.T) { // P6.3
	e := opened(t, disk.New())
	write(t, e, "+a=1 +aa=x +b=2 +d=4")
	flush(t, e, 1)
	write(t, e, "+c=3 -aa +d=5 +\xff=6")
	for _, r := range []struct {
		from, to string
		limit    int
		told     string
	}{
		{"", "", 9, "a=1 b=2 c=3 d=5 \xff=6"},
		{"", "", 5, "a=1 b=2 c=3 d=5 \xff=6"},
		{"", "", 4, "a=1 b=2 c=3 d=5"},
		{"", "", 1, "a=1"},
		{"", "", 0, ""},
		{"", "", -1, ""},
		{"", "", math.MinInt, ""},
		{"", "", math.MaxInt, "a=1 b=2 c=3 d=5 \xff=6"},
		{"b", "", 9, "b=2 c=3 d=5 \xff=6"},
		{"b", "d", 9, "b=2 c=3"},
		{"b", "d", 1, "b=2"},
		{"b", "d", 2, "b=2 c=3"},
		{"b", "d\x00", 9, "b=2 c=3 d=5"},
		{"b\x00", "d", 9, "c=3"},
		{"", "b", 9, "a=1"},
		{"a", "b", 9, "a=1"},
		{"aa", "b", 9, ""},
		{"b", "b", 9, ""},
		{"d", "b", 9, ""},
		{"\xff", "", 9, "\xff=6"},
		{"\xff\x00", "", 9, ""},
		{"\xff", "\x00", 9, ""},
	} {
		what := fmt.Sprintf("Scan(%q, %q, %d)", r.from, r.to, r.limit)
		l, code := e.Scan([]byte(r.from), []byte(r.to), r.limit)
		want(t, what, code, api.OK)
		wantText(t, what, text(l), r.told)
		wantText(t, what+" of a Snap", text(e.Snap().Scan([]byte(r.from), []byte(r.to), r.limit)), r.told)
	}
}

func TestFlush(t *testing.T) { // P6.4
	d := disk.New()
	e := opened(t, d)
	flush(t, e, 0)
	write(t, e, "+a=1", "+b=2")
	counts(t, e, 0)
	flush(t, e, 1)
	flush(t, e, 1)
	write(t, e, "+a=1") // what is there already: it is in memory all the same
	flush(t, e, 2)
	write(t, e, "-b")
	flush(t, e, 3)
	write(t, e, "*a,b +c=3")
	flush(t, e, 4)
	has(t, e, "c=3")
	e = opened(t, d)
	counts(t, e, 4)
	has(t, e, "c=3")
	write(t, e, "+c=4")
	flush(t, e, 5)
	has(t, opened(t, d), "c=4")
}

func TestFlushOfNothing(t *testing.T) { // P6.4: nothing is written
	d := disk.New()
	e := opened(t, d)
	still := func(what string, tables int) {
		t.Helper()
		d.Arm(0)
		flush(t, e, tables)
		if d.Dead() {
			t.Fatalf("Flush of %s wrote something", what)
		}
		d.Crash(nil)
	}
	still("a new engine", 0)
	write(t, e, "+a=1")
	flush(t, e, 1)
	still("what is in a table", 1)
	e = opened(t, d)
	still("an engine that was opened again", 1)
	write(t, e, "-a")
	flush(t, e, 2)
	compact(t, e, 0)
	still("an engine with nothing in it", 0)
	has(t, e, "")
}

func TestFlushOfWhatWentAgain(t *testing.T) { // P6.4: that is nothing, and it takes no table
	d := disk.New()
	e := opened(t, d)
	write(t, e, "+a=1 -a", "+b=2", "*,", "-x")
	flush(t, e, 0)
	has(t, opened(t, d), "")
	write(t, e, "+a=1")
	flush(t, e, 1)
	write(t, e, "+b=2", "-b -x", "+c=3", "*b,")
	flush(t, e, 1)
	write(t, e, "-a")
	flush(t, e, 2)
	write(t, e, "-a", "+a=1 *a,")
	flush(t, e, 2)
	has(t, opened(t, d), "")
	compact(t, e, 0)
}

func TestCompact(t *testing.T) { // P6.4
	d := disk.New()
	e := opened(t, d)
	compact(t, e, 0)
	write(t, e, "+a=1 +b=2")
	compact(t, e, 0) // what is in memory is no table
	flush(t, e, 1)
	d.Arm(0)
	compact(t, e, 1) // one table is one already: nothing is written
	d.Crash(nil)
	write(t, e, "-a")
	flush(t, e, 2)
	write(t, e, "+c=3")
	compact(t, e, 1)
	has(t, e, "b=2 c=3")
	e = opened(t, d)
	counts(t, e, 1)
	has(t, e, "b=2 c=3")
	flush(t, e, 2)
	write(t, e, "*,")
	compact(t, e, 1)
	has(t, e, "")
	flush(t, e, 2)
	compact(t, e, 0)
	has(t, e, "")
	write(t, e, "+d=4")
	flush(t, e, 1)
	has(t, opened(t, d), "d=4")
}

func TestCompactLeavesNothingDeleted(t *testing.T) { // P6.4
	d := disk.New()
	e := opened(t, d)
	write(t, e, "+a=1 +b=2 +c=3")
	flush(t, e, 1)
	write(t, e, "-b +c=4")
	flush(t, e, 2)
	compact(t, e, 1)
	l, code := e.merged()
	want(t, "merged", code, api.OK)
	wantText(t, "the table", text(l), "a=1 c=4")
	files := e.numbered(tableName)
	b, _ := d.Read(files[0])
	if len(files) != 1 || strings.Contains(string(b), "b") {
		t.Errorf("behind Compact the files %q, the first %q; want one, without b", files, b)
	}
}

func TestRoomComesBack(t *testing.T) { // P6.4: much more goes through an engine than a disk holds
	value := strings.Repeat("v", 200_000)
	for what, batches := range map[string][]string{
		"put over and over": {"+a=" + value},
		"put and deleted":   {"+a=" + value, "-a"},
		"put and wiped":     {"+a=" + value + " *,"},
	} {
		d := disk.New()
		e := opened(t, d)
		for range api.MaxDisk/len(value) + 20 {
			write(t, e, batches...)
			want(t, "Flush", e.Flush(), api.OK)
			want(t, "Compact", e.Compact(), api.OK)
			if t.Failed() {
				t.Fatal(what)
			}
		}
		if d.Size() > 3*len(value) {
			t.Errorf("%s: %d bytes are left on the disk", what, d.Size())
		}
	}
}

func TestSnap(t *testing.T) { // P6.5
	d := disk.New()
	e := opened(t, d)
	none := e.Snap()
	write(t, e, "+a=1 +b=2")
	memory := e.Snap()
	flush(t, e, 1)
	write(t, e, "-a +b=3 +c=4")
	both := e.Snap()
	flush(t, e, 2)
	compact(t, e, 1)
	write(t, e, "*, +z=9")
	flush(t, e, 2)
	compact(t, e, 1)
	write(t, e, "+y=8")
	d.Arm(0)
	e.Write(ops("+x=7"))
	for what, s := range map[string]struct {
		snap *Snap
		told string
	}{"none": {none, ""}, "memory": {memory, "a=1 b=2"}, "both": {both, "b=3 c=4"}} {
		wantText(t, "Scan of the snapshot of "+what, text(s.snap.Scan(nil, nil, 9)), s.told)
		for _, key := range []string{"a", "b", "c", "x", "y", "z"} {
			got, there := s.snap.Get([]byte(key))
			if there != strings.Contains(s.told, key) || there && !strings.Contains(s.told, key+"="+string(got)) || !there && got != nil {
				t.Errorf("Get(%s) of the snapshot of %s: %q, %v; there was %q", key, what, got, there, s.told)
			}
		}
	}
}

func TestNoSnap(t *testing.T) { // P6.5: nil is an answer of Snap, and nothing is in it
	var s *Snap
	if got, there := s.Get([]byte("a")); got != nil || there {
		t.Errorf("Get of no snapshot: %q, %v", got, there)
	}
	if l := s.Scan(nil, nil, 9); l != nil {
		t.Errorf("Scan of no snapshot: %q", text(l))
	}
}
