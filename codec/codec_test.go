package codec

import (
	"bytes"
	"encoding/binary"
	"hash/crc32"
	"testing"

	"regatta/api"
)

func TestNumbersOfEightBytes(t *testing.T) { // P1.1
	if got := told(Uint(258)); got != "0000000000000102" {
		t.Errorf("Uint(258): %s", got)
	}
	if got := told(Desc(0)); got != "ffffffffffffffff" {
		t.Errorf("Desc(0): %s", got)
	}
	for _, n := range numbers() {
		if want := binary.BigEndian.AppendUint64(nil, n); !bytes.Equal(Uint(n), want) {
			t.Errorf("Uint(%d): %x; want %x", n, Uint(n), want)
		}
		if want := binary.BigEndian.AppendUint64(nil, 1<<64-1-n); !bytes.Equal(Desc(n), want) {
			t.Errorf("Desc(%d): %x; want %x", n, Desc(n), want)
		}
		if got, rest, e := TakeUint(append(Uint(n), 9)); got != n || told(rest) != "09" || e != api.OK {
			t.Errorf("TakeUint of Uint(%d) and 09: %d, %x, error %d", n, got, rest, e)
		}
		if got, rest, e := TakeDesc(append(Desc(n), 9)); got != n || told(rest) != "09" || e != api.OK {
			t.Errorf("TakeDesc of Desc(%d) and 09: %d, %x, error %d", n, got, rest, e)
		}
	}
	for size := range 8 {
		b := bytes.Repeat([]byte{1}, size)
		if n, rest, e := TakeUint(b); n != 0 || rest != nil || e != api.ErrShort {
			t.Errorf("TakeUint of %d bytes: %d, %x, error %d; want ErrShort", size, n, rest, e)
		}
		if n, rest, e := TakeDesc(b); n != 0 || rest != nil || e != api.ErrShort {
			t.Errorf("TakeDesc of %d bytes: %d, %x, error %d; want ErrShort", size, n, rest, e)
		}
	}
}

func TestBytes(t *testing.T) { // P1.2
	rows := []struct{ text, want string }{
		{"", "0000000000000000f7"},
		{"61", "6100000000000000f8"},
		{"00", "0000000000000000f8"},
		{"61626364656667", "6162636465666700fe"},
		{"6161616161616161", "6161616161616161ff 0000000000000000f7"},
		{"616161616161616162", "6161616161616161ff 6200000000000000f8"},
		{"ffffffffffffffff ffffffffffffffff", "ffffffffffffffffff ffffffffffffffffff 0000000000000000f7"},
	}
	for _, r := range rows {
		text, want := raw(t, r.text), raw(t, r.want)
		if got := Bytes(text); !bytes.Equal(got, want) {
			t.Errorf("Bytes(%s): %x; want %x", r.text, got, want)
		}
		if got, rest, e := TakeBytes(append(want, 7)); !bytes.Equal(got, text) || told(rest) != "07" || e != api.OK {
			t.Errorf("TakeBytes(%s and 07): %x, %x, error %d", r.want, got, rest, e)
		}
	}
}

func TestBytesRefused(t *testing.T) { // P1.2
	refused(t, "TakeBytes", []refusal{
		{"", api.ErrShort},
		{"f7", api.ErrShort},
		{"0000000000000000", api.ErrShort},
		{"6162000000000000", api.ErrShort},
		{"6100000000000000f6", api.ErrForm},
		{"0000000000000000f6", api.ErrForm},
		{"000000000000000000", api.ErrForm},
		{"6162000000000000f8", api.ErrForm},
		{"6100000000000001f8", api.ErrForm},
		{"0000000000000001f7", api.ErrForm},
		{"0100000000000000f7", api.ErrForm},
		{"61626364656667 01fe", api.ErrForm},
		{"6161616161616161ff", api.ErrShort},
		{"6161616161616161ff 6100000000000000", api.ErrShort},
		{"6161616161616161ff 6162000000000000f8", api.ErrForm},
		{"6161616161616161ff 6100000000000000f6", api.ErrForm},
		{"6161616161616161f6 61", api.ErrForm},
	})
	for ninth := range 247 {
		if _, _, e := TakeBytes(append(make([]byte, 8), byte(ninth))); e != api.ErrForm {
			t.Errorf("TakeBytes with the ninth byte %d: error %d; want ErrForm", ninth, e)
		}
	}
}

func TestKey(t *testing.T) { // P1.3
	if got := told(Key([]byte("a"), 1)); got != "6100000000000000f8fffffffffffffffe" {
		t.Errorf("Key(a, 1): %s", got)
	}
	for i, key := range texts() {
		n := numbers()[i%len(numbers())]
		made := Key(key, n)
		if want := append(Bytes(key), Desc(n)...); !bytes.Equal(made, want) {
			t.Errorf("Key(%x, %d): %x; want %x", key, n, made, want)
		}
		if got, ts, e := TakeKey(made); !bytes.Equal(got, key) || ts != n || e != api.OK {
			t.Errorf("TakeKey of Key(%x, %d): %x, %d, error %d", key, n, got, ts, e)
		}
	}
	refused(t, "TakeKey", []refusal{
		{"", api.ErrShort},
		{"6100000000000000f8", api.ErrShort},
		{"6100000000000000f8 fffffffffffffe", api.ErrShort},
		{"6100000000000000f6 ff", api.ErrForm},
		{"6162000000000000f8 fffffffffffffffe", api.ErrForm},
		{"6161616161616161ff fffffffffffffffe", api.ErrShort},
		{"6100000000000000f8 fffffffffffffffe 00", api.ErrForm},
		{"6100000000000000f8 fffffffffffffffe fffffffffffffffe", api.ErrForm},
	})
}

func TestVarint(t *testing.T) { // P1.4
	if got := told(Varint(0)) + " " + told(Varint(300)) + " " + told(Varint(1<<64-1)); got != "00 ac02 ffffffffffffffffff01" {
		t.Errorf("Varint of 0, 300, 2^64 - 1: %s", got)
	}
	for _, n := range numbers() {
		want := binary.AppendUvarint(nil, n)
		if got := Varint(n); !bytes.Equal(got, want) {
			t.Errorf("Varint(%d): %x; want %x", n, got, want)
		}
		if got, rest, e := TakeVarint(append(want, 0x80, 0)); got != n || told(rest) != "8000" || e != api.OK {
			t.Errorf("TakeVarint of Varint(%d) and 8000: %d, %x, error %d", n, got, rest, e)
		}
		if got, rest, e := TakeVarint(want); got != n || len(rest) != 0 || e != api.OK {
			t.Errorf("TakeVarint of Varint(%d): %d, %x, error %d", n, got, rest, e)
		}
	}
}

func TestVarintRefused(t *testing.T) { // P1.4
	nine := "80 80 80 80 80 80 80 80 80 "
	refused(t, "TakeVarint", []refusal{
		{"", api.ErrShort},
		{"80", api.ErrShort},
		{"ffffff", api.ErrShort},
		{nine, api.ErrShort},
		{nine + "80", api.ErrForm},
		{nine + "ff", api.ErrForm},
		{nine + "80 01", api.ErrForm},
		{nine + "00", api.ErrForm},
		{nine + "02", api.ErrForm},
		{nine + "7f", api.ErrForm},
		{nine + "03 01", api.ErrForm},
		{"8000", api.ErrForm},
		{"8000 01", api.ErrForm},
		{"ac8200", api.ErrForm},
		{"80 80 80 80 80 80 80 80 00", api.ErrForm},
		{"ffffffffffffffffff 02", api.ErrForm},
	})
	if n, rest, e := TakeVarint(raw(t, nine+"01 80")); n != 1<<63 || told(rest) != "80" || e != api.OK {
		t.Errorf("TakeVarint of 2^63 and 80: %d, %x, error %d", n, rest, e)
	}
}

func TestSum(t *testing.T) { // P1.5
	if a, b := Sum([]byte("123456789")), Sum(nil); a != 0xcbf43926 || b != 0 {
		t.Errorf("sums %08x and %08x; want cbf43926 and 00000000", a, b)
	}
	for _, b := range append(texts(), anyBytes(dice(), 5000)) {
		if got, want := Sum(b), crc32.ChecksumIEEE(b); got != want {
			t.Errorf("Sum(%x): %08x; want %08x", b, got, want)
		}
	}
}

func TestFrame(t *testing.T) { // P1.6
	if got := told(Frame([]byte("a"))) + " " + told(Frame(nil)); got != "01e8b7be4361 0000000000" {
		t.Errorf("Frame of a and of nothing: %s", got)
	}
	for _, b := range append(texts(), anyBytes(dice(), 127), anyBytes(dice(), 128), anyBytes(dice(), 70000)) {
		want := binary.AppendUvarint(nil, uint64(len(b)))
		want = binary.BigEndian.AppendUint32(want, crc32.ChecksumIEEE(b))
		want = append(want, b...)
		if got := Frame(b); !bytes.Equal(got, want) {
			t.Errorf("Frame(%x): %x; want %x", b, got, want)
		}
		if got, rest, e := TakeFrame(append(want, 5)); !bytes.Equal(got, b) || told(rest) != "05" || e != api.OK {
			t.Errorf("TakeFrame of Frame(%x) and 05: %x, %x, error %d", b, got, rest, e)
		}
	}
}

func TestFrameRefused(t *testing.T) { // P1.6
	refused(t, "TakeFrame", []refusal{
		{"", api.ErrShort},
		{"80", api.ErrShort},
		{"8000", api.ErrForm},
		{"8100 e8b7be43 61", api.ErrForm},
		{"ffffffffffffffffff02 00000000", api.ErrForm},
		{"00", api.ErrShort},
		{"00 000000", api.ErrShort},
		{"01 e8b7be43", api.ErrShort},
		{"01 00000000", api.ErrShort},
		{"02 e8b7be43 61", api.ErrShort},
		{"ffffffffffffffffff01 e8b7be43 61", api.ErrShort},
		{"fcffffffffffffffff01 e8b7be43 61", api.ErrShort},
		{"80808080808080808001 e8b7be43 61", api.ErrShort},
		{"ffffffffffffffff7f e8b7be43 61", api.ErrShort},
		{"fcffffffffffffff7f e8b7be43 61", api.ErrShort},
		{"01 e8b7be43 62", api.ErrSum},
		{"01 43beb7e8 61", api.ErrSum},
		{"00 00000001", api.ErrSum},
		{"00 e8b7be43 61", api.ErrSum},
	})
}

func TestRow(t *testing.T) { // P1.7
	a, long, wide := []byte("a"), anyBytes(dice(), 300), make([][]byte, 200)
	rows := []struct {
		fields [][]byte
		want   string
	}{
		{nil, "00"},
		{[][]byte{nil}, "0100"},
		{[][]byte{a, nil}, "02016100"},
		{[][]byte{nil, a}, "02000161"},
		{[][]byte{{0}, {1, 2}, a}, "03 0100 020102 0161"},
		{[][]byte{long}, "01 ac02" + told(long)},
		{wide, "c801" + told(make([]byte, 200))},
	}
	for _, r := range rows {
		want := raw(t, r.want)
		if got := Row(r.fields...); !bytes.Equal(got, want) {
			t.Errorf("Row(%x): %x; want %x", r.fields, got, want)
		}
		got, e := TakeRow(want)
		if e != api.OK || len(got) != len(r.fields) {
			t.Errorf("TakeRow(%s): %x, error %d", r.want, got, e)
			continue
		}
		for i, f := range r.fields {
			if !bytes.Equal(got[i], f) {
				t.Errorf("TakeRow(%s): field %d is %x; want %x", r.want, i, got[i], f)
			}
		}
	}
}

func TestRowRefused(t *testing.T) { // P1.7
	refused(t, "TakeRow", []refusal{
		{"", api.ErrShort},
		{"80", api.ErrShort},
		{"8000", api.ErrForm},
		{"01", api.ErrForm},
		{"05 00", api.ErrForm},
		{"03 0161", api.ErrForm},
		{"ffffffffffffffffff01 00", api.ErrForm},
		{"80808080808080808001 00", api.ErrForm},
		{"02 0161", api.ErrShort},
		{"01 0261", api.ErrShort},
		{"01 ffffffffffffffffff01", api.ErrShort},
		{"01 ffffffffffffffff7f 61", api.ErrShort},
		{"01 80", api.ErrShort},
		{"01 8000", api.ErrForm},
		{"01 8100 61", api.ErrForm},
		{"01 80808080808080808002", api.ErrForm},
		{"02 0161 80", api.ErrShort},
		{"02 0561 8000", api.ErrShort},
		{"00 00", api.ErrForm},
		{"01 00 00", api.ErrForm},
		{"02 0161 00 61", api.ErrForm},
	})
}
