package codec

import (
	"bytes"
	"cmp"
	"testing"

	"regatta/api"
)

func TestOrderOfBytes(t *testing.T) { // P1.8
	l := texts()
	for _, a := range l {
		for _, b := range l {
			got, want := bytes.Compare(Bytes(a), Bytes(b)), bytes.Compare(a, b)
			if got != want {
				t.Errorf("Bytes(%x) and Bytes(%x) compare as %d, their texts as %d", a, b, got, want)
			}
			if want != 0 && bytes.HasPrefix(Bytes(b), Bytes(a)) {
				t.Errorf("Bytes(%x) is the beginning of Bytes(%x)", a, b)
			}
		}
	}
}

func TestOrderOfKeys(t *testing.T) { // P1.8
	l := texts()
	times := []uint64{0, 1, 2, 255, 256, 1<<62 - 1, 1 << 62, 1<<64 - 1}
	for _, a := range l {
		for i, b := range l {
			s, u := times[i%len(times)], times[i*3%7]
			want := bytes.Compare(a, b)
			if want == 0 {
				want = cmp.Compare(u, s)
			}
			if got := bytes.Compare(Key(a, s), Key(b, u)); got != want {
				t.Errorf("Key(%x, %d) and Key(%x, %d) compare as %d; want %d", a, s, b, u, got, want)
			}
		}
	}
	for _, s := range times {
		for _, u := range times {
			if got := bytes.Compare(Key([]byte("a"), s), Key([]byte("a"), u)); got != cmp.Compare(u, s) {
				t.Errorf("Key(a, %d) and Key(a, %d) compare as %d", s, u, got)
			}
		}
	}
}

func TestTakeWithAnythingBehind(t *testing.T) { // P1.9
	behinds := [][]byte{nil, {0}, {255}, {0x80, 0}, make([]byte, 9), Bytes([]byte("next")), Frame([]byte("next")), Varint(1<<64 - 1)}
	for _, behind := range behinds {
		number := func(name string, n uint64, made []byte, take func([]byte) (uint64, []byte, api.Errno)) {
			if got, rest, e := take(append(made, behind...)); got != n || !bytes.Equal(rest, behind) || e != api.OK {
				t.Errorf("%s of %d with %x behind: %d, %x, error %d", name, n, behind, got, rest, e)
			}
		}
		text := func(name string, b, made []byte, take func([]byte) ([]byte, []byte, api.Errno)) {
			if got, rest, e := take(append(made, behind...)); !bytes.Equal(got, b) || !bytes.Equal(rest, behind) || e != api.OK {
				t.Errorf("%s of %x with %x behind: %x, %x, error %d", name, b, behind, got, rest, e)
			}
		}
		for _, n := range numbers() {
			number("TakeUint", n, Uint(n), TakeUint)
			number("TakeDesc", n, Desc(n), TakeDesc)
			number("TakeVarint", n, Varint(n), TakeVarint)
		}
		for _, b := range texts() {
			text("TakeBytes", b, Bytes(b), TakeBytes)
			text("TakeFrame", b, Frame(b), TakeFrame)
		}
	}
}

// oneForm: whatever is read is made again as the bytes that were read; beside an error there is nothing.
func oneForm(t *testing.T, c call, b []byte) {
	t.Helper()
	_, again, zero, e := c.take(b)
	switch e {
	case api.OK:
		if !bytes.Equal(again, b) {
			t.Errorf("%s(%x): read, and made again as %x", c.name, b, again)
		}
	case api.ErrShort, api.ErrForm, api.ErrSum:
		if !zero {
			t.Errorf("%s(%x): error %d, and something beside it", c.name, b, e)
		}
	default:
		t.Errorf("%s(%x): error %d is none of this layer", c.name, b, e)
	}
}

func TestOneForm(t *testing.T) { // P1.9, R1, R2, R7
	l := forms()
	for _, c := range takes() {
		for _, b := range l {
			oneForm(t, c, b)
			for i := range b {
				oneForm(t, c, b[:i])
			}
		}
	}
}

func TestOneFormOfTurnedBytes(t *testing.T) { // P1.9, R1, R2, R7
	r := dice()
	for _, c := range takes() {
		for _, b := range forms() {
			for range min(len(b), 6) {
				x := bytes.Clone(b)
				x[r.IntN(len(x))] = []byte{0, 1, 2, 127, 128, 246, 247, 248, 254, 255}[r.IntN(10)]
				oneForm(t, c, x)
			}
		}
		for n := range 1 << 16 {
			oneForm(t, c, []byte{byte(n >> 8), byte(n)})
		}
		for range 20000 {
			oneForm(t, c, anyBytes(r, r.IntN(30)))
		}
	}
}

func TestTurnedFrames(t *testing.T) { // P1.10
	all := [][]byte{nil, {0}, []byte("a"), []byte("ab"), bytes.Repeat([]byte{0}, 12), anyBytes(dice(), 127), anyBytes(dice(), 130), Frame([]byte("inner"))}
	for _, text := range all {
		alone := Frame(text)
		for _, behind := range [][]byte{nil, {0}, Frame([]byte("next")), Frame(nil)} {
			frame := append(bytes.Clone(alone), behind...)
			for i := range alone {
				for turn := 1; turn < 256; turn++ {
					x := bytes.Clone(frame)
					x[i] ^= byte(turn)
					turnedFrame(t, x, len(behind) == 0 && i >= len(Varint(uint64(len(text)))))
				}
			}
		}
	}
}

// turnedFrame: what is read of a frame with a byte turned has its sum; of one that mustRefuse nothing is read.
func turnedFrame(t *testing.T, x []byte, mustRefuse bool) {
	t.Helper()
	got, rest, e := TakeFrame(x)
	if e != api.OK {
		return
	}
	if mustRefuse {
		t.Errorf("TakeFrame(%x): read, and a byte behind its length is turned", x)
	}
	if !bytes.Equal(append(Frame(got), rest...), x) {
		t.Errorf("TakeFrame(%x): %x is read, and its sum is another one", x, got)
	}
}

func TestSumTellsNearTexts(t *testing.T) { // P1.11
	r := dice()
	for _, size := range []int{1, 2, 3, 4, 5, 8, 9, 40, 300} {
		text := anyBytes(r, size)
		sum := Sum(text)
		near := func(at, n int, turn uint32) {
			x := bytes.Clone(text)
			for i := range n {
				x[at+i] ^= byte(turn >> (8 * i))
			}
			if !bytes.Equal(x, text) && Sum(x) == sum {
				t.Errorf("Sum(%x) is that of %x", x, text)
			}
		}
		for at := range size {
			for turn := range uint32(256) {
				near(at, 1, turn)
			}
			for n := 2; n <= min(4, size-at); n++ {
				for range 300 {
					near(at, n, r.Uint32())
				}
			}
		}
	}
}

func TestSumTellsTwoBytes(t *testing.T) { // P1.11
	seen := map[uint32]int{}
	for n := range 1 << 16 {
		s := Sum([]byte{'t', byte(n >> 8), byte(n), 'x'})
		if other, ok := seen[s]; ok {
			t.Errorf("Sum of t, %04x, x is that of t, %04x, x", n, other)
		}
		seen[s] = n
	}
}
