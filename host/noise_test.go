package host

import (
	"fmt"
	"math"
	"math/rand/v2"
	"reflect"
	"slices"
	"testing"

	"regatta/api"
	"regatta/letter"
)

// turn gives some field within v another value.
func turn(r *rand.Rand, v reflect.Value) {
	switch v.Kind() {
	case reflect.Struct:
		f := v.Field(r.IntN(v.NumField()))
		for k := 0; k < 6 && f.IsZero(); k++ { // what is not there mostly counts for nothing
			f = v.Field(r.IntN(v.NumField()))
		}
		turn(r, f)
	case reflect.Slice:
		turnSlice(r, v)
	case reflect.Bool:
		v.SetBool(!v.Bool())
	case reflect.Int:
		l := []int64{v.Int() + 1, v.Int() - 1, 0, 1, 2, 3, 5, -1, math.MaxInt64, math.MinInt64}
		v.SetInt(l[r.IntN(len(l))])
	case reflect.Uint64:
		l := []uint64{v.Uint() + 1, v.Uint() - 1, 0, 1, 2, 3, 4, 100, 1 << 62, 1 << 63, math.MaxUint64}
		v.SetUint(l[r.IntN(len(l))])
	case reflect.Uint8:
		v.SetUint(uint64(r.IntN(256)))
	}
}

func turnSlice(r *rand.Rand, v reflect.Value) {
	switch n := v.Len(); {
	case n > 0 && r.IntN(3) > 0:
		turn(r, v.Index(r.IntN(n)))
	case n > 0 && r.IntN(2) > 0:
		v.Set(v.Slice(0, n-1))
	default:
		v.Set(reflect.Append(v, reflect.Zero(v.Type().Elem())))
	}
}

// TestTurnedLetters is R1: whatever a letter says, even in a form that is right, Receive ends.
func TestTurnedLetters(t *testing.T) {
	t.Parallel()
	for seed := range uint64(*runs) {
		t.Run(fmt.Sprint(seed), func(t *testing.T) {
			seed += *first
			w := newWorld(t, seed, api.Setup{Stores: 1 + int(seed)%5, Clients: 2, Policy: policyOf(seed)})
			w.rounds(30)
			w.blind = true
			m := w.anyMix()
			m.crash, m.arm = 0, 0
			for range 3000 {
				if w.r.IntN(4) > 0 || len(w.way) == 0 {
					w.any(m)
					continue
				}
				p := w.way[w.r.IntN(len(w.way))]
				l, ok := letter.Read(p.Data)
				if !ok || len(l) == 0 {
					continue
				}
				for range 1 + w.r.IntN(3) {
					turn(w.r, reflect.ValueOf(&l[w.r.IntN(len(l))]).Elem())
				}
				p.Data = letter.Write(l)
				if w.r.IntN(8) == 0 {
					p.from = w.r.IntN(w.setup.Stores+w.setup.Clients+3) - 1
				}
				w.way = slices.Insert(w.way, w.r.IntN(len(w.way)+1), p)
			}
		})
	}
}
