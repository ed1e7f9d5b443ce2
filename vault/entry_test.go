package vault

import (
	"bytes"
	"encoding/hex"
	"math"
	"math/rand/v2"
	"strings"
	"testing"

	"regatta/api"
	"regatta/codec"
	"regatta/conf"
)

func raw(t *testing.T, s string) []byte {
	t.Helper()
	b, err := hex.DecodeString(strings.ReplaceAll(s, " ", ""))
	if err != nil {
		t.Fatal(err)
	}
	return b
}

func TestEntry(t *testing.T) { // P9.1
	for _, r := range []struct {
		x api.Entry
		b string
	}{
		{entry(4, "3=abc"), "05 01 01 01 03 01 04 03 61 62 63 00"},
		{entry(4, "3="), "05 01 01 01 03 01 04 00 00"},
		{entry(300, "128"), "05 01 03 02 80 01 02 ac 02 00 00"},
		{entry(0, "0"), "05 01 03 01 00 01 00 00 00"},
		{entry(2, "1(3|1,2)"), "05 01 02 01 01 01 02 00 0d 03 03 01 01 03 05 02 01 01 01 02 01 00"},
		{entry(2, "1(3,3,0)"), "05 01 02 01 01 01 02 00 0d 03 07 03 01 03 01 03 01 00 01 00 01 00"}, // not checked
		{entry(2, "1()"), "05 01 02 01 01 01 02 00 07 03 01 00 01 00 01 00"},
		{entry(greatest, "18446744073709551615"), "05 01 03 0a ff ff ff ff ff ff ff ff ff 01 0a ff ff ff ff ff ff ff ff ff 01 00 00"},
	} {
		b := Entry(r.x)
		wantText(t, "Entry of "+text(r.x), hex.EncodeToString(b), hex.EncodeToString(raw(t, r.b)))
		x, code := TakeEntry(b)
		want(t, "TakeEntry("+r.b+")", code, api.OK)
		wantText(t, "TakeEntry("+r.b+")", text(x), text(r.x))
	}
}

func TestEntryOfAnyFields(t *testing.T) { // P9.1: Data are written of each kind, Conf of EntryConf alone
	c := of("1 2 || 3")
	for _, kind := range []int{api.EntryData, api.EntryConf, api.EntryNone, 0, 4, -1, math.MinInt, math.MaxInt, 1<<32 + 1} {
		for _, data := range []string{"", "x"} {
			x := api.Entry{Kind: kind, Term: 3, Index: 4, Data: []byte(data), Conf: c}
			field := []byte(nil)
			if kind == api.EntryConf {
				field = conf.Encode(c)
			}
			b := codec.Row(codec.Varint(uint64(kind)), codec.Varint(3), codec.Varint(4), []byte(data), field)
			wantText(t, "Entry of "+text(x), hex.EncodeToString(Entry(x)), hex.EncodeToString(b))
			if kind != api.EntryConf {
				x.Conf = api.Conf{}
			}
			if got, code := TakeEntry(b); kind == api.EntryData || data == "" && (kind == api.EntryConf || kind == api.EntryNone) {
				want(t, "TakeEntry of "+text(x), code, api.OK)
				wantText(t, "TakeEntry of "+text(x), text(got), text(x))
			} else {
				want(t, "TakeEntry of "+text(x), code, api.ErrForm)
				wantText(t, "TakeEntry of "+text(x), text(got), text(api.Entry{}))
			}
		}
	}
}

func TestTakeEntryRefused(t *testing.T) { // P9.1: whatever is wrong, ErrForm and nothing beside
	for _, h := range []string{
		"", "00", "05", "80", "05 01", "ff ff ff ff ff ff ff ff ff 01",
		"04 01 01 01 03 01 04 00", "06 01 01 01 03 01 04 00 00 00", // not five fields
		"05 01 01 01 03 01 04 00", "05 01 01 01 03 01 04 02 61 00", "05 01 01 01 03 01 04 00 00 00", // too little, too much
		"05 00 01 03 01 04 00 00", "05 01 01 00 01 04 00 00", "05 01 01 01 03 00 00 00", // a number that is not there
		"05 02 01 00 01 03 01 04 00 00", "05 02 81 00 01 03 01 04 00 00", "05 01 01 02 83 00 01 04 00 00", "05 01 01 01 03 02 04 04 00 00", "05 01 01 01 83 01 04 00 00", // numbers not in their form
		"05 01 01 0a ff ff ff ff ff ff ff ff ff 02 01 04 00 00", "05 01 01 01 03 0a ff ff ff ff ff ff ff ff ff 02 00 00", // 2^64 and more
		"05 01 00 01 03 01 04 00 00", "05 01 04 01 03 01 04 00 00", "05 01 04 01 03 01 04 01 61 00", "05 0a ff ff ff ff ff ff ff ff ff 01 01 03 01 04 00 00", "05 0a 81 80 80 80 80 80 80 80 80 01 01 03 01 04 00 00", "05 05 81 80 80 80 10 01 03 01 04 00 00", // none of the three kinds
		"05 01 01 01 03 01 04 00 07 03 01 00 01 00 01 00", "05 01 03 01 03 01 04 00 07 03 01 00 01 00 01 00", "05 01 03 01 03 01 04 00 01 00", // a configuration where none is
		"05 01 03 01 03 01 04 01 61 00", "05 01 02 01 03 01 04 01 61 07 03 01 00 01 00 01 00", "05 01 03 01 03 01 04 01 00 00", // data where none are
		"05 01 02 01 03 01 04 00 00", "05 01 02 01 03 01 04 00 01 00", "05 01 02 01 03 01 04 00 05 03 01 00 01 00", "05 01 02 01 03 01 04 00 08 03 01 00 01 00 01 00 00", // no configuration where one is
		"85 00 01 01 01 03 01 04 00 00", "05 81 00 01 01 03 01 04 00 00", // lengths that are not in their form
	} {
		x, code := TakeEntry(raw(t, h))
		want(t, "TakeEntry("+h+")", code, api.ErrForm)
		wantText(t, "TakeEntry("+h+")", text(x), text(api.Entry{}))
	}
	if _, code := TakeEntry(nil); code != api.ErrForm {
		t.Errorf("TakeEntry(nil): error %d", code)
	}
}

func TestEntryHasOneForm(t *testing.T) { // P9.1, R7: what is read is written again as the bytes that it was read of
	r := rand.New(rand.NewPCG(9, 1))
	read, refused := 0, 0
	for _, s := range []string{"3=abc", "3", "300=", "1(1,2,3)", "1(3|1,2|9)"} {
		whole := Entry(entry(400, s))
		for range 20000 {
			b := bytes.Clone(whole)
			for range 1 + r.IntN(2) {
				b[r.IntN(len(b))] = byte(r.IntN(256) >> r.IntN(8))
			}
			b = b[:len(b)-r.IntN(2)*r.IntN(2)]
			x, code := TakeEntry(b)
			if code != api.OK {
				want(t, "TakeEntry of turned bytes", code, api.ErrForm)
				wantText(t, "TakeEntry of turned bytes", text(x), text(api.Entry{}))
				refused++
				continue
			}
			read++
			if again := Entry(x); !bytes.Equal(again, b) {
				t.Fatalf("TakeEntry(%x): %s, which is written as %x", b, text(x), again)
			}
		}
	}
	if read < 1000 || refused < 1000 {
		t.Errorf("%d are read and %d refused: the bytes are chosen badly", read, refused)
	}
}
