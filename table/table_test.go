package table

import (
	"bytes"
	"strings"
	"testing"

	"regatta/api"
	"regatta/codec"
)

func TestExamples(t *testing.T) { // the rows of the chapter's table
	b := built(t, pairs("a=1 b!"))
	x := opened(t, b)
	if x.Len() != 2 {
		t.Errorf("Len: %d; want 2", x.Len())
	}
	gets(t, x, api.Pair{Key: []byte("b"), Gone: true})
	lacks(t, x, "c")

	disordered(t, pairs("b= a="))
	disordered(t, pairs("a= a="))

	want(t, "Range(a, b)", text(x.Range([]byte("a"), []byte("b"))), "a=1")
	want(t, "Range(b, nothing)", text(x.Range([]byte("b"), nil)), "b!")

	want(t, "Merge", text(Merge(tablesOf(t, "a=1", "a=2 b=3")...)), "a=1 b=3")

	refused(t, "no byte", nil)
	refused(t, "one byte more", append(b, 0))
}

func TestBytesOfBuild(t *testing.T) { // P5.1
	rows := []struct {
		pairs string
		want  []byte
	}{
		{"", []byte{1, 0xd2, 0x02, 0xef, 0x8d, 0}},
		{"a=1", framed([]byte("\x03\x01a\x011\x01\x00"))},
		{"a!", framed([]byte("\x03\x01a\x00\x01\x01"))},
		{"a!1", framed([]byte("\x03\x01a\x011\x01\x01"))},
		{"=", framed([]byte("\x03\x00\x00\x01\x00"))},
		{"a=1 b!22 c=", framed([]byte("\x03\x01a\x011\x01\x00"), []byte("\x03\x01b\x0222\x01\x01"), []byte("\x03\x01c\x00\x01\x00"))},
	}
	for _, r := range rows {
		if got := built(t, pairs(r.pairs)); !bytes.Equal(got, r.want) {
			t.Errorf("Build(%s): %x; want %x", r.pairs, got, r.want)
		}
	}
}

func TestOrderOfKeys(t *testing.T) { // P5.1: byte by byte, the shorter one first
	keys := []string{"", "\x00", "\x00\x00", "\x00\x01", "\x01", "A", "a", "a\x00", "aa", "aaaaaaaaa", "ab", "b", "\x7f", "\x80", "\xff", "\xff\x00", "\xff\xff"}
	for i, low := range keys {
		for j, high := range keys {
			l := []api.Pair{{Key: []byte(low)}, {Key: []byte(high)}}
			if i >= j {
				disordered(t, l)
				continue
			}
			has(t, opened(t, built(t, l)), l)
		}
	}
}

func TestDisorder(t *testing.T) { // P5.1: wherever it is, and whether pairs are gone or not
	for _, told := range []string{"a=1 a!1", "a! a=", "a!1 a!1", "a= b= b=", "a= c= b=", "c= a= b=", "a= b= c= d= c=", "b= =", "= ="} {
		disordered(t, pairs(told))
	}
}

func TestGoneHasAValue(t *testing.T) { // P5.1: it is told and kept as it is
	x := tableOf(t, "a!one b= c!")
	has(t, x, pairs("a!one b= c!"))
	want(t, "Merge", text(Merge(x)), "a!one b= c!")
}

func TestLongPairs(t *testing.T) { // P5.1: the chapter sets no bound
	long := []byte(strings.Repeat("k", 300))
	l := []api.Pair{{Key: nil, Value: long}, {Key: long, Value: bytes.Repeat([]byte{0}, 70000)}, {Key: append(long, 0), Gone: true}}
	has(t, opened(t, built(t, l)), l)
}

func TestOpenOfNoTable(t *testing.T) { // P5.2
	a, b := field("a", "1", "\x00"), field("b", "", "\x01")
	opened(t, framed(a, b))
	rows := []struct {
		what  string
		bytes []byte
	}{
		{"a byte 0", []byte{0}},
		{"a frame of nothing", codec.Frame(nil)},
		{"a row without a frame", codec.Row(a)},
		{"a frame of a field", codec.Frame(a)},
		{"a frame within a frame", codec.Frame(framed(a))},
		{"two tables", append(framed(a), framed(b)...)},
		{"a table behind a byte", append([]byte{0}, framed(a)...)},
		{"a row and a byte behind it", codec.Frame(append(codec.Row(a), 0))},
		{"a row of too many fields", codec.Frame(append([]byte{2}, codec.Row(a)[1:]...))},
		{"a row of too few fields", codec.Frame(append([]byte{1}, codec.Row(a, b)[1:]...))},
		{"a number of fields in another form", codec.Frame(append([]byte{0x81, 0}, codec.Row(a)[1:]...))},
		{"a pair of no byte", framed(nil)},
		{"a pair of no part", framed(field())},
		{"a pair of two parts", framed(field("a", "1"))},
		{"a pair of four parts", framed(field("a", "1", "\x00", ""))},
		{"a pair and a byte behind it", framed(append(field("a", "1", "\x00"), 0))},
		{"a pair that is cut off", framed(a[:len(a)-1])},
		{"a pair with a part's length in another form", framed([]byte("\x03\x81\x00a\x011\x01\x00"))},
		{"a mark of no byte", framed(field("a", "1", ""))},
		{"a mark of two bytes", framed(field("a", "1", "\x00\x00"))},
		{"the mark 2", framed(field("a", "1", "\x02"))},
		{"the mark 255", framed(field("a", "1", "\xff"))},
		{"a wrong pair behind a right one", framed(a, field("b", "", "\x02"))},
		{"falling keys", framed(b, a)},
		{"a key twice", framed(a, field("a", "2", "\x01"))},
		{"a key twice at the end", framed(a, b, b)},
	}
	for _, r := range rows {
		refused(t, r.what, r.bytes)
	}
}

func TestGet(t *testing.T) { // P5.2
	x := tableOf(t, "b=1 bb!2 d=3")
	has(t, x, pairs("b=1 bb!2 d=3"))
	for _, key := range []string{"", "a", "ba", "b\x00", "bba", "c", "D", "da", "d\x00", "\xff"} {
		lacks(t, x, key)
	}
	lacks(t, tableOf(t, ""), "")
	gets(t, tableOf(t, "=1"), api.Pair{Value: []byte("1")})
}

func TestRange(t *testing.T) { // P5.2
	x := tableOf(t, "b=1 bb!2 d=3")
	rows := []struct{ from, to, want string }{
		{"", "", "b=1 bb!2 d=3"},
		{"a", "", "b=1 bb!2 d=3"},
		{"b", "", "b=1 bb!2 d=3"},
		{"b\x00", "", "bb!2 d=3"},
		{"bb", "", "bb!2 d=3"},
		{"c", "", "d=3"},
		{"d", "", "d=3"},
		{"d\x00", "", ""},
		{"\xff", "", ""},
		{"", "a", ""},
		{"", "b", ""},
		{"", "b\x00", "b=1"},
		{"", "bb", "b=1"},
		{"", "bbb", "b=1 bb!2"},
		{"", "d", "b=1 bb!2"},
		{"", "\xff", "b=1 bb!2 d=3"},
		{"b", "d", "b=1 bb!2"},
		{"bb", "c", "bb!2"},
		{"bb", "bb", ""},
		{"ba", "ba", ""},
		{"c", "b", ""},
		{"d", "b", ""},
		{"\xff", "a", ""},
	}
	for _, r := range rows {
		want(t, "Range("+r.from+", "+r.to+")", text(x.Range([]byte(r.from), []byte(r.to))), r.want)
	}
	want(t, "Range of no pairs", text(tableOf(t, "").Range(nil, nil)), "")
	want(t, "Range from nothing", text(tableOf(t, "=1 a=2").Range(nil, []byte("a"))), "=1")
}
