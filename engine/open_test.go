package engine

import (
	"fmt"
	"slices"
	"strings"
	"testing"

	"regatta/api"
	"regatta/codec"
	"regatta/disk"
	"regatta/table"
)

func TestOpen(t *testing.T) { // P6.1
	refuses(t, "no disk", nil, api.ErrArg)
	d := disk.New()
	has(t, opened(t, d), "")
	e := opened(t, d)
	has(t, e, "")
	counts(t, e, 0)
	write(t, e, "+a=1", "+b=2 -a")
	d.Crash(nil)
	e = opened(t, d)
	has(t, e, "b=2")
	counts(t, e, 0)
	flush(t, e, 1)
	d.Crash(nil)
	e = opened(t, d)
	has(t, e, "b=2")
	counts(t, e, 1)
}

func TestOpenOfADeadDisk(t *testing.T) { // P6.1
	d := disk.New()
	d.Arm(0)
	d.Write("x", nil)
	refuses(t, "a dead disk", d, api.ErrDead)
	d.Crash(nil)
	e := opened(t, d)
	write(t, e, "+a=1")
	d.Arm(0)
	d.Write("x", nil)
	refuses(t, "a dead disk", d, api.ErrDead)
	d.Crash(nil)
	has(t, opened(t, d), "a=1")
}

func TestOpenOfAFullDisk(t *testing.T) { // P6.1: there is no room for a first root
	d := disk.New()
	d.Write("filler", make([]byte, api.MaxDisk))
	refuses(t, "a full disk", d, api.ErrFull)
	d.Remove("filler")
	has(t, opened(t, d), "")
}

func TestOpenBrokenOff(t *testing.T) { // P6.1, P6.6: of a new disk, at each change, whatever stays
	for left := 0; ; left++ {
		for keep := range 12 {
			d := disk.New()
			d.Arm(left)
			if _, code := Open(d); code == api.OK {
				return
			}
			d.Crash([]int{keep, keep})
			e := opened(t, d)
			has(t, e, "")
			write(t, e, "+a=1")
			d.Crash(nil)
			has(t, opened(t, d), "a=1")
		}
	}
}

func TestFilesOfOthers(t *testing.T) { // P6.1: what is no record and no table is nobody's business
	d := disk.New()
	names := []string{"x", "log", "log.", "log.1", "log.0000000000000000000x", "table", "table.1", "table.000000000000000000001", "roots", "root.", "tablex00000000000000000001"}
	for _, name := range names {
		lay(t, d, name, "it")
	}
	for range 2 {
		e := opened(t, d)
		write(t, e, "+a=1")
		want(t, "Flush", e.Flush(), api.OK)
		want(t, "Compact", e.Compact(), api.OK)
		has(t, opened(t, d), "a=1")
		for _, name := range names {
			if b, code := d.Read(name); string(b) != "it" || code != api.OK {
				t.Errorf("the file %s: %q, error %d", name, b, code)
			}
		}
	}
}

// spoilable is a disk with two tables, and with records in the log that these tell and others that they don't.
func spoilable(t *testing.T) (d *disk.Disk, told, withoutLast string) {
	t.Helper()
	d = disk.New()
	e := opened(t, d)
	write(t, e, "+a=1 +b=2", "+c=3")
	flush(t, e, 1)
	write(t, e, "-a", "+d=4")
	flush(t, e, 2)
	write(t, e, "+e=5 *c,d", "+f=6")
	withoutLast = all(t, e)
	write(t, e, "+g=7 -b")
	return d, all(t, e), withoutLast
}

// judge: a spoilt disk is refused; or nothing is missing; or the last batch
// alone is, where what is spoilt looks as if it had been torn.
func judge(t *testing.T, what, file string, d *disk.Disk, told, withoutLast string) {
	t.Helper()
	e, code := Open(d)
	if code == api.ErrEngine && e == nil {
		return
	}
	if code != api.OK || e == nil {
		t.Errorf("%s: engine %v, error %d", what, e, code)
		return
	}
	got := all(t, e)
	if got != told && (got != withoutLast || file != seg(7)) {
		t.Errorf("%s: %q; there was %q", what, got, told)
	}
}

func TestSpoiltDisk(t *testing.T) { // P6.1: each byte of each file is turned, or left out, or the file is gone
	d, told, withoutLast := spoilable(t)
	for _, name := range d.Names() {
		b, _ := d.Read(name)
		for i := range b {
			for _, x := range []byte{1, 2, 3, 4, 8, 16, 32, 64, 128, 255} {
				turned := slices.Clone(b)
				turned[i] ^= x
				c := copied(t, d)
				lay(t, c, name, string(turned))
				judge(t, fmt.Sprintf("byte %d of %s turned by %d", i, name, x), name, c, told, withoutLast)
			}
			c := copied(t, d)
			lay(t, c, name, string(slices.Delete(slices.Clone(b), i, i+1)))
			judge(t, fmt.Sprintf("byte %d of %s left out", i, name), name, c, told, withoutLast)
			c = copied(t, d)
			lay(t, c, name, string(b[:i]))
			judge(t, fmt.Sprintf("%d bytes left of %s", i, name), name, c, told, withoutLast)
		}
		for _, behind := range []string{"\x00", "x", string(b), string(codec.Frame(nil))} {
			c := copied(t, d)
			lay(t, c, name, string(b)+behind)
			judge(t, fmt.Sprintf("%q behind %s", behind, name), name, c, told, withoutLast)
		}
		c := copied(t, d)
		c.Remove(name)
		judge(t, name+" is gone", name, c, told, withoutLast)
	}
}

func TestSpoiltLastRecord(t *testing.T) { // P6.1: whole, but with a wrong sum; that is no torn end
	d, _, _ := spoilable(t)
	b, _ := d.Read(seg(7))
	for i := 1; i < len(b); i++ {
		b[i] ^= 0x10
		c := copied(t, d)
		lay(t, c, seg(7), string(b))
		refuses(t, fmt.Sprintf("byte %d of the last record turned", i), c, api.ErrEngine)
		b[i] ^= 0x10
	}
	for what, behind := range map[string]string{"a byte": "x", "another record": string(b), "half a record": string(b[:4])} {
		c := copied(t, d)
		lay(t, c, seg(7), string(b)+behind)
		refuses(t, what+" behind the last record", c, api.ErrEngine)
	}
	c := copied(t, d)
	lay(t, c, seg(7), strings.Repeat("\x80", 10))
	refuses(t, "a length without an end", c, api.ErrEngine)
}

func TestMissingFiles(t *testing.T) { // P6.1
	d, told, _ := spoilable(t)
	for _, name := range []string{rootFile, tableFile(1), tableFile(2), seg(5), seg(6)} {
		c := copied(t, d)
		want(t, "Remove("+name+")", c.Remove(name), api.OK)
		refuses(t, "a disk without "+name, c, api.ErrEngine)
	}
	e := opened(t, disk.New())
	write(t, e, "+a=1")
	want(t, "Remove(root)", e.disk.Remove(rootFile), api.OK)
	refuses(t, "a log without a root", e.disk, api.ErrEngine)
	c := copied(t, d)
	want(t, "Remove of a record that the tables tell", c.Remove(seg(4)), api.OK)
	has(t, opened(t, c), told)
	for _, name := range d.Names() { // one file alone is nothing that an engine left, but a root that has just been laid
		b, _ := d.Read(name)
		c := disk.New()
		lay(t, c, name, string(b))
		refuses(t, name+" alone", c, api.ErrEngine)
	}
}

// laid is a disk with this root and this record alone.
func laid(t *testing.T, rootRow, record []byte) *disk.Disk {
	t.Helper()
	d := disk.New()
	lay(t, d, rootFile, string(codec.Frame(rootRow)))
	lay(t, d, seg(1), string(codec.Frame(record)))
	b, _ := table.Build([]api.Pair{{Key: []byte("t"), Value: []byte("1")}})
	lay(t, d, tableFile(1), string(b))
	b, _ = table.Build([]api.Pair{{Key: []byte("u"), Value: []byte("2")}})
	lay(t, d, tableFile(2), string(b))
	return d
}

// numbers is the row of a root of these.
func numbers(l ...uint64) []byte {
	var fields [][]byte
	for _, n := range l {
		fields = append(fields, codec.Varint(n))
	}
	return codec.Row(fields...)
}

func TestRootsWithTheirSum(t *testing.T) { // P6.1: what is in them must fit too
	record := recordOf(ops("+a=1"))
	for _, r := range []struct {
		what string
		row  []byte
		told string
	}{
		{"no table", numbers(1), "a=1"},
		{"one table", numbers(1, 1), "a=1 t=1"},
		{"two tables", numbers(1, 2, 1), "a=1 t=1 u=2"},
		{"tables that tell the log", numbers(2, 2, 1), "t=1 u=2"},
	} {
		d := laid(t, r.row, record)
		has(t, opened(t, d), r.told)
		has(t, opened(t, d), r.told)
	}
	for what, row := range map[string][]byte{
		"no bytes":                    nil,
		"no numbers":                  codec.Row(),
		"a log that begins with 0":    numbers(0),
		"a log that ends too early":   numbers(3),
		"a log that ends far earlier": numbers(1<<64 - 1),
		"a table 0":                   numbers(1, 0),
		"a table that is not there":   numbers(1, 3),
		"a table twice":               numbers(1, 1, 1),
		"tables that rise":            numbers(1, 1, 2),
		"a table of a great number":   numbers(1, 1<<63),
		"an empty field":              codec.Row([]byte{1}, nil),
		"a field of two numbers":      codec.Row([]byte{1}, []byte{2, 1}),
		"a number in another form":    codec.Row([]byte{1}, []byte{0x81, 0}),
		"something behind the row":    append(numbers(1), 0),
		"a row that is too short":     {2, 1},
	} {
		refuses(t, "a root with "+what, laid(t, row, record), api.ErrEngine)
	}
	d := laid(t, numbers(1), record)
	lay(t, d, rootFile, string(codec.Frame(numbers(1)))+"x")
	refuses(t, "a root with a byte behind it", d, api.ErrEngine)
	d = laid(t, numbers(1), record)
	lay(t, d, seg(2), string(codec.Frame(record)))
	d.Remove(seg(1))
	refuses(t, "a log that begins too late", d, api.ErrEngine)
}

func TestRecordsWithTheirSum(t *testing.T) { // P6.1: what is in them must be a batch
	opRow := func(fields ...string) []byte {
		var l [][]byte
		for _, f := range fields {
			l = append(l, []byte(f))
		}
		return codec.Row(l...)
	}
	good := fieldOf(ops("+a=1")[0])
	has(t, opened(t, laid(t, numbers(1), codec.Row(good))), "a=1")
	has(t, opened(t, laid(t, numbers(1), codec.Row())), "")
	long := strings.Repeat("k", 4*api.MaxKey+1)
	for what, op := range map[string][]byte{
		"no bytes":                nil,
		"no fields":               opRow(),
		"a kind alone":            opRow("\x01"),
		"an empty kind":           opRow("", "a", "1"),
		"a kind of two bytes":     opRow("\x01\x00", "a", "1"),
		"a kind 0":                opRow("\x00", "a", "1"),
		"a kind 0 of two fields":  opRow("\x00", "a"),
		"a kind 4":                opRow("\x04", "a", "1"),
		"a kind 4 of two fields":  opRow("\x04", "a"),
		"a put of two fields":     opRow("\x01", "a"),
		"a put of four fields":    opRow("\x01", "a", "1", ""),
		"a delete of three":       opRow("\x02", "a", ""),
		"a wipe of two fields":    opRow("\x03", "a"),
		"a wipe of four fields":   opRow("\x03", "a", "b", ""),
		"a put of no key":         opRow("\x01", "", "1"),
		"a delete of no key":      opRow("\x02", ""),
		"a put of a long key":     opRow("\x01", long, "1"),
		"a put of a long value":   opRow("\x01", "a", strings.Repeat("v", api.MaxRecord/4+1)),
		"something behind its Op": append(opRow("\x02", "a"), 0),
	} {
		refuses(t, "a record with "+what, laid(t, numbers(1), codec.Row(good, op)), api.ErrEngine)
	}
	for what, record := range map[string][]byte{"no bytes": nil, "more than its row": append(codec.Row(good), 0), "no row": {9}} {
		refuses(t, "a record of "+what, laid(t, numbers(1), record), api.ErrEngine)
	}
}

func TestLeftOver(t *testing.T) { // P6.1: what a crash left of a Flush or a Compact is removed, and not used
	d, told, _ := spoilable(t)
	opened(t, d)
	names := d.Names()
	lay(t, d, newRoot, "half a root")
	lay(t, d, tableFile(3), "half a table")
	lay(t, d, tableFile(7), "")
	lay(t, d, "log.new", "half a segment")
	e := opened(t, d)
	has(t, e, told)
	if got := d.Names(); !slices.Equal(got, names) {
		t.Errorf("the files %q; want %q", got, names)
	}
	flush(t, e, 3)
	compact(t, e, 1)
	has(t, opened(t, d), told)
}
