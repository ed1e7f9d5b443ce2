package region

import (
	"bytes"
	"math/rand/v2"
	"slices"
	"testing"

	"regatta/api"
	"regatta/codec"
)

func TestEncode(t *testing.T) { // P10.7
	rows := [][2]string{
		{"0", "05 01 00 00 00 01 00 01 00"},
		{"1 - - 1/1 1@1 2@2~", "07 01 01 00 00 01 01 01 01 07 03 01 01 01 01 01 00 07 03 01 02 01 02 01 01"},
		{"300 a b 7/8", "05 02 ac 02 01 61 01 62 01 07 01 08"},
		{"18446744073709551615 - m 128/127 300@128", "06 0a ff ff ff ff ff ff ff ff ff 01 00 01 6d 02 80 01 01 7f 09 03 02 ac 02 02 80 01 01 00"},
		{"1 - - 0/0 1@2147483647~", "06 01 01 00 00 01 00 01 00 0b 03 01 01 05 ff ff ff ff 07 01 01"},
		{"0 b a 0/0 2@0 1@0~ 1@0~", "08 01 00 01 62 01 61 01 00 01 00 07 03 01 02 01 00 01 00 07 03 01 01 01 00 01 01 07 03 01 01 01 00 01 01"}, // not checked, and in the order that it has
	}
	for _, r := range rows {
		b := Encode(of(r[0]))
		wantBytes(t, "Encode("+r[0]+")", b, r[1])
		x, e := Decode(b)
		wantRegion(t, "Decode of Encode("+r[0]+")", x, e, r[0])
	}
}

func TestEncodeIsARow(t *testing.T) { // P10.7
	for _, s := range []string{"1", "2 a - 3/4 5@6", "9 *65 *64 1/1 1@1 2@2~ 3@3", "1 - - 1/1 1@1 2@2 3@3 4@4 5@5 6@6 7@7 8@8 9@9 10@10"} {
		r := of(s)
		fields := [][]byte{codec.Varint(r.ID), r.Start, r.End, codec.Varint(r.Epoch.Conf), codec.Varint(r.Epoch.Version)}
		for _, p := range r.Peers {
			learner := map[bool]uint64{true: 1}[p.Learner]
			fields = append(fields, codec.Row(codec.Varint(p.ID), codec.Varint(uint64(p.Store)), codec.Varint(learner)))
		}
		b := codec.Row(fields...)
		if got := Encode(r); !bytes.Equal(got, b) {
			t.Errorf("Encode(%s): %x; want %x", s, got, b)
		}
		x, e := Decode(b)
		wantRegion(t, "Decode of Encode("+s+")", x, e, s)
	}
}

func TestDecodeRefused(t *testing.T) { // P10.7: whatever is wrong, ErrForm
	rows := []string{
		"", "00", "05", "80", "06", "01 00",
		"04 01 01 00 00 01 01", "03 01 01 00 00", // fewer than five fields
		"05 00 00 00 01 00 01 00", "05 01 00 00 00 00 01 00", "05 01 00 00 00 01 00 00", // a number that is not there
		"05 01 80 00 00 01 00 01 00", "05 01 00 00 00 01 80 01 00", "05 01 00 00 00 01 00 01 80", // one that ends too early
		"05 02 81 00 00 00 01 00 01 00", "05 01 00 00 00 02 81 00 01 00", "05 01 00 00 00 01 00 02 80 00", // one that is not in its form
		"05 02 01 01 00 00 01 00 01 00", "05 01 00 00 00 02 01 01 01 00", "05 01 00 00 00 01 00 02 00 00", // something behind it
		"05 0a ff ff ff ff ff ff ff ff ff 02 00 00 01 00 01 00",                                                    // 2^64 and more
		"05 01 00 00 00 01 00 01 00 00", "05 01 00 00 00 01 00 01", "05 01 00 00 00 01 00", "05 01 00 00 00 01 00", // too much, too little
		"06 01 00 00 00 01 00 01 00", "85 00 01 00 00 00 01 00 01 00", "05 81 00 00 00 00 01 00 01 00", "05 01 00 80 00 00 01 00 01 00",
		"ff ff ff ff ff ff ff ff ff 01", "05 01 00 ff ff ff ff ff ff ff ff ff 01",
	}
	// Peers, each behind a good one and ahead of one.
	peers := []string{
		"00", "01 00", "05 02 01 01 01 01", "09 04 01 01 01 01 01 00 01 00", // no row, or not of three
		"07 03 01 01 01 01 01 02", "07 03 01 01 01 01 01 7f", "08 03 01 01 01 01 02 80 01", "08 03 01 01 01 01 02 81 00", "06 03 01 01 01 01 00", // neither 1 nor 0
		"06 03 00 01 01 01 00", "06 03 01 01 00 01 00", "07 03 01 80 01 01 01 00", "07 03 01 01 01 80 01 00", // no number
		"08 03 02 01 01 01 01 01 00", "08 03 01 01 02 01 01 01 00", "08 03 01 01 01 01 02 01 00", // something behind one
		"08 03 01 01 01 01 01 00 00", "06 03 01 01 01 01 01", "07 83 00 01 01 01 01 00",
		"0b 03 01 01 05 80 80 80 80 08 01 00", "0b 03 01 01 05 81 80 80 80 08 01 00", // a store of 2^31 and more
		"0b 03 01 01 05 80 80 80 80 10 01 00", "0b 03 01 01 05 81 80 80 80 10 01 00", // 2^32 and one more
		"10 03 01 01 0a ff ff ff ff ff ff ff ff ff 01 01 00", "10 03 01 01 0a ff ff ff ff ff ff ff ff 7f 00 01 00",
		"0f 03 01 01 09 81 80 80 80 80 80 80 80 40 01 00", "10 03 01 01 0a 81 80 80 80 80 80 80 80 80 01 01 00", // 2^62 and one, 2^63 and one
		"10 03 0a ff ff ff ff ff ff ff ff ff 02 01 01 01 00",
	}
	const good = "07 03 01 01 01 01 01 00"
	for _, p := range peers {
		rows = append(rows, "06 01 01 00 00 01 01 01 01 "+p, "08 01 01 00 00 01 01 01 01 "+good+p+good)
	}
	for _, h := range rows {
		r, e := Decode(raw(t, h))
		wantNone(t, "Decode("+h+")", r, e, api.ErrForm)
	}
	r, e := Decode(nil)
	wantNone(t, "Decode(nil)", r, e, api.ErrForm)
	r, e = Decode(raw(t, "08 01 01 00 00 01 01 01 01"+good+good+good))
	wantRegion(t, "the good ones", r, e, "1 - - 1/1 1@1 1@1 1@1")
}

func TestStoresOutside(t *testing.T) { // P10.7: Encode writes what Decode refuses
	for _, store := range []int{1 << 31, 1<<31 + 1, 1 << 32, 1<<32 + 1, 1<<63 - 1, -1, -1 << 31, -1 << 63} {
		b := Encode(api.Region{ID: 1, Peers: []api.Peer{{ID: 1, Store: store}}})
		r, e := Decode(b)
		wantNone(t, "Decode of a store too great", r, e, api.ErrForm)
		want := codec.Row(codec.Varint(1), codec.Varint(uint64(store)), codec.Varint(0))
		if !bytes.HasSuffix(b, want) {
			t.Errorf("the store %d: %x; want %x at its end", store, b, want)
		}
	}
	r, e := Decode(Encode(of("1 - - 1/1 1@2147483647 2@0")))
	wantRegion(t, "the greatest store", r, e, "1 - - 1/1 1@2147483647 2@0")
}

func TestOneForm(t *testing.T) { // P10.7, R7: what is read is written again as the bytes that it was read of
	rnd := rand.New(rand.NewPCG(10, 7))
	read, refused := 0, 0
	for _, s := range []string{"0", "1 - - 1/1 1@1 2@2~", "300 aa b 7/8 5@1", "1 a b 128/1 300@128~ 7@2147483647"} {
		whole := Encode(of(s))
		for range 20000 {
			b := bytes.Clone(whole)
			for range 1 + rnd.IntN(2) {
				b[rnd.IntN(len(b))] = byte(rnd.IntN(256) >> rnd.IntN(8))
			}
			b = b[:len(b)-rnd.IntN(2)*rnd.IntN(2)]
			r, e := Decode(b)
			if e != api.OK {
				wantNone(t, "Decode of turned bytes", r, e, api.ErrForm)
				refused++
				continue
			}
			read++
			if again := Encode(r); !bytes.Equal(again, b) {
				t.Fatalf("Decode(%x): %s, which is written as %x", b, told(r), again)
			}
		}
	}
	if read < 1000 || refused < 1000 {
		t.Errorf("%d are read and %d refused: the bytes are chosen badly", read, refused)
	}
}

func TestBytesOfMany(t *testing.T) { // P10.7, R1
	r := api.Region{ID: top, Start: bytes.Repeat([]byte{7}, 1<<20), Peers: slices.Repeat(peers("5@6 4@3~"), 1<<16)}
	x, e := Decode(Encode(r))
	if told(x) != told(r) || e != api.OK {
		t.Errorf("Decode of very many: %d peers, error %d", len(x.Peers), e)
	}
}
