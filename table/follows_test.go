package table

import (
	"bytes"
	"fmt"
	"maps"
	"math/rand/v2"
	"slices"
	"testing"

	"regatta/api"
)

// plain is a table told in the plainest way. What Table answers is held against it.
type plain map[string]api.Pair

// pairs: those from a key on and below to, rising.
func (p plain) pairs(from, to string) []api.Pair {
	var out []api.Pair
	for _, key := range slices.Sorted(maps.Keys(p)) {
		if key >= from && (to == "" || key < to) {
			out = append(out, p[key])
		}
	}
	return out
}

// merged: of each key the first table's pair.
func merged(l []plain) plain {
	out := plain{}
	for _, p := range slices.Backward(l) {
		maps.Copy(out, p)
	}
	return out
}

// anyText has few letters, and those at both ends of a byte: texts often begin alike.
func anyText(r *rand.Rand) string {
	out := make([]byte, r.IntN(4))
	for i := range out {
		out[i] = []byte{0, 'a', 'b', 0xff}[r.IntN(4)]
	}
	return string(out)
}

func anyTable(r *rand.Rand) plain {
	out := plain{}
	for range r.IntN(20) {
		key := anyText(r)
		out[key] = api.Pair{Key: []byte(key), Value: []byte(anyText(r)), Gone: r.IntN(3) == 0}
	}
	return out
}

// made is the open table of a plain one.
func made(t *testing.T, p plain) *Table {
	t.Helper()
	return opened(t, built(t, p.pairs("", "")))
}

func TestAnyTables(t *testing.T) { // P5.2, P5.4
	r := rand.New(rand.NewPCG(5, 1))
	for range 300 {
		p := anyTable(r)
		all := p.pairs("", "")
		b := built(t, all)
		x := opened(t, b)
		has(t, x, all)
		if again := built(t, x.Range(nil, nil)); !bytes.Equal(again, b) {
			t.Errorf("Build of all pairs: %x; want %x", again, b)
		}
		for range 20 {
			from, to := anyText(r), anyText(r)
			want(t, fmt.Sprintf("Range(%q, %q)", from, to), text(x.Range([]byte(from), []byte(to))), text(p.pairs(from, to)))
			if one, there := p[from]; there {
				gets(t, x, one)
			} else {
				lacks(t, x, from)
			}
		}
	}
}

func TestAnyMerges(t *testing.T) { // P5.3, P5.5
	r := rand.New(rand.NewPCG(5, 2))
	for range 300 {
		var all []plain
		var tables []*Table
		for range r.IntN(8) {
			p := anyTable(r)
			all, tables = append(all, p), append(tables, made(t, p))
		}
		want(t, "Merge", text(Merge(tables...)), text(merged(all).pairs("", "")))
		want(t, "Merge once more", text(Merge(tables...)), text(merged(all).pairs("", "")))
		for i, x := range tables {
			want(t, "Merge of one", text(Merge(x)), text(all[i].pairs("", "")))
		}
	}
}

func TestMergeOfMerges(t *testing.T) { // P5.5
	r := rand.New(rand.NewPCG(5, 3))
	for range 200 {
		a, b, c := made(t, anyTable(r)), made(t, anyTable(r)), made(t, anyTable(r))
		whole := text(Merge(a, b, c))
		want(t, "Merge(a, the table of Merge(b, c))", text(Merge(a, opened(t, built(t, Merge(b, c))))), whole)
		want(t, "Merge(the table of Merge(a, b), c)", text(Merge(opened(t, built(t, Merge(a, b))), c)), whole)
	}
}

// someTables: bytes of a table of no pairs, of a short one, and of one whose length has two bytes.
func someTables(t *testing.T) [][]byte {
	t.Helper()
	long := api.Pair{Key: []byte("k"), Value: bytes.Repeat([]byte("v"), 150)}
	return [][]byte{built(t, nil), built(t, pairs("a=1 b!")), built(t, pairs("=x a!1 b=22 c=")), built(t, []api.Pair{long})}
}

func TestOneByteTurned(t *testing.T) { // P5.4
	for _, b := range someTables(t) {
		for i := range b {
			for x := 1; x < 256; x++ {
				turned := bytes.Clone(b)
				turned[i] ^= byte(x)
				refused(t, fmt.Sprintf("bytes whose byte %d is turned", i), turned)
			}
		}
	}
}

func TestOneByteLeftOut(t *testing.T) { // P5.4
	for _, b := range someTables(t) {
		for i := range b {
			refused(t, fmt.Sprintf("bytes without byte %d", i), slices.Delete(bytes.Clone(b), i, i+1))
			refused(t, fmt.Sprintf("the first %d bytes", i), b[:i])
		}
	}
}

func TestSomeBehind(t *testing.T) { // P5.4
	for _, b := range someTables(t) {
		for x := range 256 {
			refused(t, "bytes and one behind", append(bytes.Clone(b), byte(x)))
		}
		refused(t, "bytes twice", append(bytes.Clone(b), b...))
	}
}

func TestAnyBytes(t *testing.T) { // P5.2: what is opened is what Build makes of its pairs; R1
	r := rand.New(rand.NewPCG(5, 4))
	for range 5000 {
		var fields [][]byte
		for range r.IntN(4) {
			var parts []string
			for range 2 + r.IntN(3) {
				parts = append(parts, anyText(r))
			}
			if r.IntN(4) > 0 {
				parts = append(parts[:2], string([]byte{byte(r.IntN(3))}))
			}
			fields = append(fields, field(parts...))
		}
		b := framed(fields...)
		x, e := Open(b)
		if e == api.ErrTable && x == nil {
			continue
		}
		if e != api.OK || !bytes.Equal(built(t, x.Range(nil, nil)), b) {
			t.Errorf("Open(%x): error %d, and the pairs %q", b, e, text(x.Range(nil, nil)))
		}
	}
}

func TestHandedInIsNotKept(t *testing.T) { // P5.5, R3
	l := pairs("a=1 b!2 c=3")
	b := built(t, l)
	handed, whole := spared(b)
	before := bytes.Clone(whole)
	x := opened(t, handed)
	if !bytes.Equal(whole, before) {
		t.Errorf("Open changes what it is handed: %x; want %x", whole, before)
	}
	clear(whole)
	has(t, x, l)

	again := bytes.Clone(b)
	scribble(l)
	if !bytes.Equal(b, again) {
		t.Errorf("what Build answered is turned with the pairs that it was handed: %x; want %x", b, again)
	}
	tables := []*Table{tableOf(t, "a=1"), x, nil, tableOf(t, "d=4")}
	mergedOf := slices.Clone(tables)
	Merge(tables[:2]...)
	if !slices.Equal(tables, mergedOf) {
		t.Errorf("Merge changes the list of tables that it is handed")
	}
}

func TestBuildLeavesItsPairs(t *testing.T) { // R3
	for _, told := range []string{"a=1 b!2 c=3", "b=1 a!2", "a=1 a=1"} {
		l := pairs(told)
		var wholes [][]byte
		for i := range l {
			var whole []byte
			l[i].Key, whole = spared(l[i].Key)
			wholes = append(wholes, whole)
			l[i].Value, whole = spared(l[i].Value)
			wholes = append(wholes, whole)
		}
		before := fmt.Sprintf("%x", wholes)
		Build(l)
		want(t, "the pairs behind Build", text(l), told)
		want(t, "their memory behind Build", fmt.Sprintf("%x", wholes), before)
	}
}

func TestToldIsNewMemory(t *testing.T) { // P5.5, R3
	told := "a=1 b!2 c=3 d= e!"
	l := pairs(told)
	x := tableOf(t, told)
	for range 2 {
		for _, p := range l {
			one, _ := x.Get(p.Key)
			scribble([]api.Pair{one})
		}
		scribble(x.Range(nil, nil))
		scribble(Merge(x))
		scribble(Merge(nil, x, x))
		has(t, x, l)
	}
}

func TestListsOfAnAnswerAreApart(t *testing.T) { // R3
	x := tableOf(t, "a=1 b!2 c=3 d= e!")
	for _, answer := range [][]api.Pair{x.Range(nil, nil), Merge(x), Merge(x, tableOf(t, "aa=7"), x)} {
		told := text(answer)
		for _, p := range answer {
			for _, b := range [][]byte{p.Key, p.Value} {
				_ = append(b, "more"...)
				want(t, fmt.Sprintf("an answer, when more is appended to its %q", b), text(answer), told)
			}
		}
	}
}

func TestTablesHaveNothingInCommon(t *testing.T) { // R4
	b := built(t, pairs("a=1 b!2"))
	x, y := opened(t, b), opened(t, b)
	z := tableOf(t, "a=9 z=9")
	scribble(Merge(x, z))
	scribble(x.Range(nil, nil))
	has(t, y, pairs("a=1 b!2"))
	has(t, z, pairs("a=9 z=9"))
	want(t, "Merge(z, y)", text(Merge(z, y)), "a=9 b!2 z=9")
	want(t, "Merge(y, z)", text(Merge(y, z)), "a=1 b!2 z=9")
}
