package parcel

import (
	"bytes"
	"fmt"
	"strings"
	"testing"

	"regatta/api"
	"regatta/codec"
)

func TestNewBox(t *testing.T) { // P14.2
	for _, length := range []int{-1 << 63, -1, api.MaxRecord + 1, 1<<63 - 1} {
		x, e := NewBox(1, length)
		want(t, fmt.Sprintf("NewBox(1, %d)", length), e, api.ErrArg)
		if x != nil {
			t.Errorf("NewBox(1, %d): a box beside the error", length)
		}
	}
	for _, length := range []int{0, 1, api.MaxRecord} {
		for _, sum := range []uint32{0, 1, 1<<32 - 1} {
			x := box(t, sum, length)
			missing(t, x, "[0]")
			notDone(t, x)
		}
	}
}

// fields is a row whose fields are of these digits.
func fields(t *testing.T, digits ...string) []byte {
	t.Helper()
	var l [][]byte
	for _, d := range digits {
		l = append(l, raw(t, d))
	}
	return codec.Row(l...)
}

func TestPutRefusesForms(t *testing.T) { // P14.2: codec's errors, and ErrForm
	good := fields(t, "a6f2d0df0c", "09", "03", "01", "35363738") // a piece of 123456789
	nine := "80 80 80 80 80 80 80 80 80 "
	rows := []struct {
		name string
		b    []byte
		e    api.Errno
	}{
		{"as it is made", codec.Frame(good), api.OK},
		{"nothing", nil, api.ErrShort},
		{"a length that ends too early", []byte{0x80}, api.ErrShort},
		{"a length that has another form", append([]byte{0x80, 0}, codec.Frame(good)...), api.ErrForm},
		{"the last byte gone", codec.Frame(good)[:len(good)+4], api.ErrShort},
		{"another sum", append([]byte{byte(len(good)), 1, 2, 3, 4}, good...), api.ErrSum},
		{"a byte behind", append(codec.Frame(good), 0), api.ErrForm},
		{"a piece behind", append(codec.Frame(good), codec.Frame(good)...), api.ErrForm},
		{"a frame of nothing", codec.Frame(nil), api.ErrShort},
		{"a row that ends too early", codec.Frame(good[:len(good)-1]), api.ErrShort},
		{"a row with more fields than bytes", codec.Frame([]byte{9}), api.ErrForm},
		{"a row with a byte behind", codec.Frame(append(bytes.Clone(good), 0)), api.ErrForm},
		{"a row that ends too early, and a byte behind the frame", append(codec.Frame(good[:len(good)-1]), 0), api.ErrShort},
		{"another sum, and a byte behind", append(append([]byte{byte(len(good)), 1, 2, 3, 4}, good...), 0), api.ErrSum},
		{"no field", codec.Frame(fields(t)), api.ErrForm},
		{"four fields", codec.Frame(fields(t, "a6f2d0df0c", "09", "03", "01")), api.ErrForm},
		{"six fields", codec.Frame(fields(t, "a6f2d0df0c", "09", "03", "01", "35363738", "")), api.ErrForm},
		{"how many is 0", codec.Frame(fields(t, "a6f2d0df0c", "09", "00", "00", "")), api.ErrForm},
		{"how many is 0, and the number not", codec.Frame(fields(t, "a6f2d0df0c", "09", "00", "01", "")), api.ErrForm},
		{"a number that is how many", codec.Frame(fields(t, "a6f2d0df0c", "09", "03", "03", "39")), api.ErrForm},
		{"a number above how many", codec.Frame(fields(t, "a6f2d0df0c", "09", "03", "04", "39")), api.ErrForm},
		{"a number of 2^64 - 1", codec.Frame(fields(t, "a6f2d0df0c", "09", "03", "ffffffffffffffffff01", "39")), api.ErrForm},
		{"the same as how many", codec.Frame(fields(t, "a6f2d0df0c", "09", "ffffffffffffffffff01", "ffffffffffffffffff01", "39")), api.ErrForm},
	}
	for i, name := range []string{"sum", "length", "how many", "number"} {
		for _, bad := range []string{"", "80", "8000", "09 00", "09 09", nine, nine + "02", nine + "80 01"} {
			digits := []string{"a6f2d0df0c", "09", "03", "01", "35363738"}
			digits[i] = bad
			rows = append(rows, struct {
				name string
				b    []byte
				e    api.Errno
			}{name + " of " + bad, codec.Frame(fields(t, digits...)), api.ErrForm})
		}
	}
	for _, r := range rows {
		x := boxFor(t, "123456789")
		want(t, r.name, x.Put(r.b), r.e)
		if r.e != api.OK {
			missing(t, x, "[0]") // R6
		} else {
			missing(t, x, "[0 2]")
		}
	}
}

func TestFormStandsAhead(t *testing.T) { // P14.2: what has no form is not asked to which parcel it belongs
	x := boxFor(t, "abc")
	other := uint64(codec.Sum([]byte("abc")) + 1)
	put(t, x, append(made(other, 9, 2, 0, "x"), 0), api.ErrForm)
	put(t, x, made(other, 9, 2, 2, "x"), api.ErrForm)
	put(t, x, made(other, 9, 0, 0, "x"), api.ErrForm)
	put(t, x, codec.Frame(codec.Row(codec.Varint(other), []byte{9}, []byte{2})), api.ErrForm)
	put(t, x, codec.Frame(codec.Row(codec.Varint(other), []byte{9}, []byte{2}, []byte{0, 0}, nil)), api.ErrForm)
	bad := made(other, 9, 2, 0, "x")
	bad[len(bad)-1]++
	put(t, x, bad, api.ErrSum)
}

func TestPutRefusesOtherParcels(t *testing.T) { // P14.2: ErrParcel
	sum := uint64(codec.Sum([]byte("abcdef")))
	rows := []struct {
		name  string
		piece []byte
		e     api.Errno
	}{
		{"another sum", made(sum+1, 6, 2, 1, "def"), api.ErrParcel},
		{"a sum whose lowest 32 bits are right", made(sum+1<<32, 6, 2, 1, "def"), api.ErrParcel},
		{"the length less one", made(sum, 5, 2, 1, "def"), api.ErrParcel},
		{"the length and one", made(sum, 7, 2, 1, "def"), api.ErrParcel},
		{"a length whose lowest 32 bits are right", made(sum, 6+1<<32, 2, 1, "def"), api.ErrParcel},
		{"a length with the highest bit", made(sum, 6+1<<63, 2, 1, "def"), api.ErrParcel},
		{"more pieces", made(sum, 6, 3, 1, "def"), api.ErrParcel},
		{"many more pieces", made(sum, 6, 2+1<<32, 1, "def"), api.ErrParcel},
		{"fewer pieces", made(sum, 6, 1, 0, "abc"), api.ErrParcel},
		{"a part too long", made(sum, 6, 2, 1, "defdefg"), api.ErrParcel},
		{"another part", made(sum, 6, 2, 0, "abd"), api.ErrParcel},
		{"a shorter part", made(sum, 6, 2, 0, "ab"), api.ErrParcel},
		{"a longer part", made(sum, 6, 2, 0, "abcd"), api.ErrParcel},
		{"no part", made(sum, 6, 2, 0, ""), api.ErrParcel},
		{"the same", made(sum, 6, 2, 0, "abc"), api.OK},
	}
	for _, r := range rows {
		x := boxFor(t, "abcdef")
		put(t, x, of("abcdef", 2, 0, "abc"), api.OK)
		want(t, r.name, x.Put(r.piece), r.e)
		missing(t, x, "[1]") // R6
		notDone(t, x)
		put(t, x, of("abcdef", 2, 1, "def"), api.OK)
		done(t, x, "abcdef")
		want(t, r.name+", in a full box", x.Put(r.piece), r.e)
		done(t, x, "abcdef")
	}
}

func TestRefusedPieceSaysNothing(t *testing.T) { // P14.2, R6: how many there are is said by what is in the box alone
	x := boxFor(t, "abcdef")
	put(t, x, made(uint64(codec.Sum([]byte("abcdef"))), 6, 9, 1, "abcdefg"), api.ErrParcel)
	put(t, x, made(1, 6, 9, 1, "abc"), api.ErrParcel)
	put(t, x, of("abcdef", 9, 9, "abc"), api.ErrForm)
	missing(t, x, "[0]")
	put(t, x, of("abcdef", 3, 1, "cd"), api.OK)
	missing(t, x, "[0 2]")
}

func TestPartsOfAnyLength(t *testing.T) { // P14.2: a part has up to as many bytes as the whole, wherever it stands
	x := boxFor(t, "abc")
	put(t, x, of("abc", 3, 1, "abc"), api.OK)
	put(t, x, of("abc", 3, 0, ""), api.OK)
	missing(t, x, "[2]")
	put(t, x, of("abc", 3, 0, ""), api.OK)
	put(t, x, of("abc", 3, 0, "a"), api.ErrParcel)
	put(t, x, of("abc", 3, 2, ""), api.OK)
	done(t, x, "abc")
	none := boxFor(t, "")
	put(t, none, of("", 2, 1, "a"), api.ErrParcel)
	put(t, none, of("", 2, 1, ""), api.OK)
	notDone(t, none)
	put(t, none, of("", 2, 0, ""), api.OK)
	done(t, none, "")
	missing(t, none, "[]")
}

func TestMissing(t *testing.T) { // P14.3
	text := strings.Repeat("x", 200)
	x := boxFor(t, text)
	missing(t, x, "[0]")
	numbers := func(from, step, count int) string {
		l := []int{}
		for i := range count {
			l = append(l, from+i*step)
		}
		return fmt.Sprint(l)
	}
	put(t, x, of(text, 200, 199, "x"), api.OK)
	missing(t, x, numbers(0, 1, 64))
	for i := 0; i < 199; i += 2 {
		put(t, x, of(text, 200, uint64(i), "x"), api.OK)
	}
	missing(t, x, numbers(1, 2, 64))
	for i := 1; i < 199-2*65; i += 2 {
		put(t, x, of(text, 200, uint64(i), "x"), api.OK)
	}
	missing(t, x, numbers(69, 2, 64)) // 65 are missing
	put(t, x, of(text, 200, 71, "x"), api.OK)
	l := numbers(73, 2, 63)
	missing(t, x, "[69 "+l[1:]) // 64 are
	put(t, x, of(text, 200, 69, "x"), api.OK)
	missing(t, x, l)
	for i := 73; i < 197; i += 2 {
		put(t, x, of(text, 200, uint64(i), "x"), api.OK)
	}
	missing(t, x, "[197]")
	notDone(t, x)
	put(t, x, of(text, 200, 197, "x"), api.OK)
	missing(t, x, "[]")
	done(t, x, text)
}

func TestAnyNumberOfPieces(t *testing.T) { // P14.3, R1: how many there are may be any number
	for _, many := range []uint64{65, 1 << 31, 1 << 32, 1<<63 - 1, 1 << 63, 1<<64 - 1} {
		x := boxFor(t, "")
		put(t, x, of("", many, many-1, ""), api.OK)
		put(t, x, of("", many, 3, ""), api.OK)
		l := x.Missing()
		if len(l) != min(api.MaxScan, int(min(many-2, 64))) || l[2] != 2 || l[3] != 4 || l[len(l)-1] != len(l) {
			t.Errorf("of %d pieces Missing tells %v", many, l)
		}
		notDone(t, x)
	}
	x := boxFor(t, "ab")
	put(t, x, of("ab", 1<<63, 1<<32, "a"), api.OK) // not the piece 0
	put(t, x, of("ab", 1<<63, 0, "b"), api.OK)
	put(t, x, of("ab", 1<<63, 1<<32, "b"), api.ErrParcel)
	if l := x.Missing(); len(l) != api.MaxScan || l[0] != 1 {
		t.Errorf("Missing: %v", l)
	}
}

func TestDoneLooksAtTheSum(t *testing.T) { // P14.3
	x := boxFor(t, "abcdef")
	put(t, x, of("abcdef", 2, 0, "abc"), api.OK)
	put(t, x, of("abcdef", 2, 1, "dee"), api.OK)
	missing(t, x, "[]")
	notDone(t, x)
	put(t, x, of("abcdef", 2, 1, "def"), api.ErrParcel)
	notDone(t, x)
	y := box(t, 1, 0)
	put(t, y, made(1, 0, 1, 0, ""), api.OK)
	missing(t, y, "[]")
	notDone(t, y)
}

func TestDoneLooksAtTheLength(t *testing.T) { // P14.3: the sum alone is not enough
	text := []byte("abcdef")
	sum := codec.Sum(text)
	for _, other := range [][]byte{forged(t, nil, sum), forged(t, []byte("a"), sum), forged(t, []byte("abc"), sum), forged(t, []byte("abcdefgh"), sum)} {
		x := boxFor(t, "abcdef")
		put(t, x, of("abcdef", 2, 0, string(other[:len(other)/2])), api.OK)
		put(t, x, of("abcdef", 2, 1, string(other[len(other)/2:])), api.OK)
		missing(t, x, "[]")
		notDone(t, x)
	}
	like := string(forged(t, []byte("zz"), sum)) // as long, and with that sum
	x := boxFor(t, "abcdef")
	put(t, x, of("abcdef", 1, 0, like), api.OK)
	done(t, x, like)
}

func TestDoneInOrder(t *testing.T) { // P14.3: one behind the other by their numbers, unlike as they came, and of unlike lengths
	text := "the parts stand by their numbers"
	parts := []string{"the p", "", "arts stand by the", "ir", " numbers"}
	for _, order := range [][]uint64{{0, 1, 2, 3, 4}, {4, 3, 2, 1, 0}, {2, 0, 4, 1, 3}} {
		x := boxFor(t, text)
		for _, at := range order {
			notDone(t, x)
			put(t, x, of(text, 5, at, parts[at]), api.OK)
		}
		done(t, x, text)
		done(t, x, text)
	}
}

func TestLongPartsDoNotFit(t *testing.T) { // R1: each part is as long as the whole may be
	part := strings.Repeat("x", api.MaxRecord)
	x := boxFor(t, part)
	for at := range uint64(8) {
		want(t, "Put", x.Put(of(part, 8, at, part)), api.OK)
	}
	missing(t, x, "[]")
	notDone(t, x)
}
