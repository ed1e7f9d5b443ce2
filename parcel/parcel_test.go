package parcel

import (
	"bytes"
	"fmt"
	"testing"

	"regatta/api"
	"regatta/codec"
)

func TestExamples(t *testing.T) { // the chapter's examples
	b := []byte{1, 2, 3}
	l := pack(t, b, 2)
	if len(l) != 2 || len(pack(t, nil, 5)) != 1 {
		t.Fatalf("%d and %d pieces; want 2 and 1", len(l), len(pack(t, nil, 5)))
	}
	x := boxFor(t, "\x01\x02\x03")
	put(t, x, l[1], api.OK)
	missing(t, x, "[0]")
	put(t, x, l[0], api.OK)
	done(t, x, "\x01\x02\x03")
	for i := range l[0] {
		turned := bytes.Clone(l[0])
		turned[i] ^= 1
		if e := x.Put(turned); e != api.ErrSum && e != api.ErrForm && e != api.ErrShort {
			t.Errorf("Put with byte %d turned: error %d", i, e)
		}
	}
	put(t, x, pack(t, []byte{1, 2, 4}, 2)[0], api.ErrParcel)
}

func TestBytesOfPieces(t *testing.T) { // P14.1: Sum of 123456789 is cbf43926, in seven bits a byte a6 f2 d0 df 0c
	l := pack(t, []byte("123456789"), 4)
	rows := []string{
		"05 05 a6f2d0df0c 01 09 01 03 01 00 04 31323334",
		"05 05 a6f2d0df0c 01 09 01 03 01 01 04 35363738",
		"05 05 a6f2d0df0c 01 09 01 03 01 02 01 39",
	}
	if len(l) != len(rows) {
		t.Fatalf("%d pieces; want %d", len(l), len(rows))
	}
	for i, row := range rows {
		if w := codec.Frame(raw(t, row)); !bytes.Equal(l[i], w) {
			t.Errorf("piece %d: %x; want %x", i, l[i], w)
		}
	}
	none := pack(t, nil, 1)
	if w := codec.Frame(raw(t, "05 01 00 01 00 01 01 01 00 00")); len(none) != 1 || !bytes.Equal(none[0], w) {
		t.Errorf("pieces of nothing: %x; want %x", none, w)
	}
}

// cut is how the chapter cuts b: the parts in order.
func cut(b []byte, size int) [][]byte {
	var parts [][]byte
	for len(b) > size {
		parts = append(parts, b[:size])
		b = b[size:]
	}
	return append(parts, b)
}

func TestPackCuts(t *testing.T) { // P14.1
	r := dice()
	for length := range 40 {
		b := anyBytes(r, length)
		for _, size := range []int{1, 2, 3, 7, 8, 19, 20, 39, 40, 1000, api.MaxRecord} {
			parts := cut(b, size)
			l := pack(t, b, size)
			if len(l) != len(parts) {
				t.Fatalf("Pack(%d bytes, %d): %d pieces; want %d", length, size, len(l), len(parts))
			}
			for i, part := range parts {
				if w := of(string(b), uint64(len(parts)), uint64(i), string(part)); !bytes.Equal(l[i], w) {
					t.Errorf("Pack(%d bytes, %d): piece %d is %x; want %x", length, size, i, l[i], w)
				}
			}
		}
	}
}

func TestPackRefuses(t *testing.T) { // P14.1
	rows := []struct {
		length, size int
		e            api.Errno
	}{
		{3, 1, api.OK}, {3, 0, api.ErrArg}, {3, -1, api.ErrArg}, {3, -1 << 63, api.ErrArg}, {0, 0, api.ErrArg},
		{3, api.MaxRecord, api.OK}, {3, api.MaxRecord + 1, api.ErrArg}, {0, api.MaxRecord + 1, api.ErrArg}, {3, 1<<63 - 1, api.ErrArg},
		{api.MaxRecord, api.MaxRecord, api.OK}, {api.MaxRecord, api.MaxRecord - 1, api.OK},
		{api.MaxRecord + 1, api.MaxRecord, api.ErrArg}, {api.MaxRecord + 1, 1, api.ErrArg}, {api.MaxRecord + 1, 0, api.ErrArg},
	}
	for _, r := range rows {
		l, e := Pack(make([]byte, r.length), r.size)
		want(t, fmt.Sprintf("Pack(%d bytes, %d)", r.length, r.size), e, r.e)
		if (l == nil) != (e != api.OK) {
			t.Errorf("Pack(%d bytes, %d): %d pieces beside the error %d", r.length, r.size, len(l), e)
		}
	}
}

func TestLongestBytes(t *testing.T) { // P14.1, P14.3: at the limit all is well
	b := anyBytes(dice(), api.MaxRecord)
	for _, size := range []int{api.MaxRecord, api.MaxRecord - 1, 4096, 4095} {
		l := pack(t, b, size)
		x := boxFor(t, string(b))
		for i := range l {
			want(t, "Put", x.Put(l[len(l)-1-i]), api.OK)
		}
		if got, ok := x.Done(); !ok || !bytes.Equal(got, b) || len(x.Missing()) != 0 {
			t.Errorf("in parts of %d bytes: %d bytes are told, %t", size, len(got), ok)
		}
	}
}

func TestVeryManyPieces(t *testing.T) { // R1: as many as can be
	b := anyBytes(dice(), api.MaxRecord)
	l := pack(t, b, 1)
	x := boxFor(t, string(b))
	for i, p := range l {
		if i%97 != 0 {
			want(t, "Put", x.Put(p), api.OK)
		}
	}
	if m := x.Missing(); len(m) != api.MaxScan || m[0] != 0 || m[63] != 63*97 {
		t.Errorf("Missing: %v", m)
	}
	notDone(t, x)
	for i, p := range l {
		if i%97 == 0 {
			want(t, "Put", x.Put(p), api.OK)
		}
	}
	if got, ok := x.Done(); !ok || !bytes.Equal(got, b) {
		t.Errorf("Done: %d bytes, %t", len(got), ok)
	}
}
