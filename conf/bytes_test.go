package conf

import (
	"bytes"
	"math/rand/v2"
	"testing"

	"regatta/api"
	"regatta/codec"
)

func TestEncode(t *testing.T) { // P7.5
	rows := [][2]string{
		{"", "03 01 00 01 00 01 00"},
		{"1", "03 03 01 01 01 01 00 01 00"},
		{"1 2 3", "03 07 03 01 01 01 02 01 03 01 00 01 00"},
		{"2 | 1 | 300", "03 03 01 01 02 03 01 01 01 04 01 02 ac 02"},
		{"| 127 128", "03 01 00 06 02 01 7f 02 80 01 01 00"},
		{"18446744073709551615", "03 0c 01 0a ff ff ff ff ff ff ff ff ff 01 01 00 01 00"},
		{"3 1 1 | 0 | 3", "03 07 03 01 03 01 01 01 01 03 01 01 00 03 01 01 03"}, // not checked, and in the order that it has
	}
	for _, r := range rows {
		b := Encode(of(r[0]))
		wantBytes(t, "Encode("+r[0]+")", b, r[1])
		c, e := Decode(b)
		wantConf(t, "Decode of Encode("+r[0]+")", c, e, r[0])
	}
}

func TestEncodeIsARowOfRows(t *testing.T) { // P7.5
	field := func(l []uint64) []byte {
		var b [][]byte
		for _, n := range l {
			b = append(b, codec.Varint(n))
		}
		return codec.Row(b...)
	}
	for _, c := range all(4) {
		b := codec.Row(field(c.Voters), field(c.Old), field(c.Learners))
		if got := Encode(c); !bytes.Equal(got, b) {
			t.Errorf("Encode%s: %x; want %x", told(c), got, b)
		}
		got, e := Decode(b)
		if told(got) != told(c) || e != api.OK {
			t.Errorf("Decode of Encode%s: %s, error %d", told(c), told(got), e)
		}
	}
}

func TestDecodeRefused(t *testing.T) { // P7.5: whatever is wrong, ErrForm
	rows := []string{
		"", "00", "03", "04", "80",
		"02 01 00 01 00", "04 01 00 01 00 01 00 01 00", // not three fields
		"03 01 00 01 00 00", "03 00 00 00", // a field that is no row
		"03 01 00 01 00 01 00 00", "03 01 00 01 00 01", "03 01 00 01 00 02 00", "03 01 00 01 00", // too much, too little
		"03 03 01 01 80 01 00 01 00", "03 02 01 00 01 00 01 00", // a number that ends too early, or is not there
		"03 04 01 02 01 01 01 00 01 00", "03 04 01 02 81 00 01 00 01 00", // two numbers in a field, one that is not in its form
		"03 0c 01 0a ff ff ff ff ff ff ff ff ff 02 01 00 01 00",                               // 2^64 and more
		"03 01 00 03 01 01 80 01 00", "03 01 00 01 00 03 01 01 80", "03 01 00 01 00 02 01 01", // in the later fields too
		"83 00 01 00 01 00 01 00", "03 81 00 00 01 00 01 00", // lengths that are not in their form
		"03 01 01 01 00 01 00", "03 02 00 00 01 00 01 00",
		"ff ff ff ff ff ff ff ff ff 01", "03 ff ff ff ff ff ff ff ff ff 01", "03 0a ff ff ff ff ff ff ff ff ff 01 01 00 01 00",
	}
	for _, h := range rows {
		c, e := Decode(raw(t, h))
		wantNone(t, "Decode("+h+")", c, e, api.ErrForm)
	}
	c, e := Decode(nil)
	wantNone(t, "Decode(nil)", c, e, api.ErrForm)
}

func TestOneForm(t *testing.T) { // P7.5, R7: what is read is written again as the bytes that it was read of
	r := rand.New(rand.NewPCG(7, 5))
	read, refused := 0, 0
	for _, s := range []string{"", "1 2 3", "2 3 4 | 1 2 3 | 9", "5 300 | 0 | 0 18446744073709551615"} {
		whole := Encode(of(s))
		for range 20000 {
			b := bytes.Clone(whole)
			for range 1 + r.IntN(2) {
				b[r.IntN(len(b))] = byte(r.IntN(256) >> r.IntN(8))
			}
			b = b[:len(b)-r.IntN(2)*r.IntN(2)]
			c, e := Decode(b)
			if e != api.OK {
				wantNone(t, "Decode of turned bytes", c, e, api.ErrForm)
				refused++
				continue
			}
			read++
			if again := Encode(c); !bytes.Equal(again, b) {
				t.Fatalf("Decode(%x): %s, which is written as %x", b, told(c), again)
			}
		}
	}
	if read < 1000 || refused < 1000 {
		t.Errorf("%d are read and %d refused: the bytes are chosen badly", read, refused)
	}
}

func TestBytesOfMany(t *testing.T) { // P7.5, R1
	many := api.Conf{Voters: counted(1, 1<<17), Old: counted(1, 3), Learners: counted(1<<40, 1<<40+1<<16)}
	c, e := Decode(Encode(many))
	if told(c) != told(many) || e != api.OK {
		t.Errorf("Decode of very many: %d members, error %d", len(Members(c)), e)
	}
}
