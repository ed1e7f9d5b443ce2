package tso

import (
	"math/rand/v2"
	"testing"

	"regatta/api"
)

// dice falls the same way in every run.
func dice() *rand.Rand { return rand.New(rand.NewPCG(15, 44)) }

// given: Take(n) answers that number.
func given(t *testing.T, o *Oracle, n int, first uint64) {
	t.Helper()
	if got, e := o.Take(n); got != first || e != api.OK {
		t.Errorf("Take(%d): %d, error %d; want %d", n, got, e, first)
	}
}

// refused: Take(n) answers that error, and no number.
func refused(t *testing.T, o *Oracle, n int, e api.Errno) {
	t.Helper()
	if got, code := o.Take(n); got != 0 || code != e {
		t.Errorf("Take(%d): %d, error %d; want error %d", n, got, code, e)
	}
}

// wanted: Want(n) tells that limit.
func wanted(t *testing.T, o *Oracle, n int, limit uint64) {
	t.Helper()
	if got, ok := o.Want(n); got != limit || !ok {
		t.Errorf("Want(%d): %d, %t; want %d", n, got, ok, limit)
	}
}

// content: Want(n) tells nothing.
func content(t *testing.T, o *Oracle, n int) {
	t.Helper()
	if got, ok := o.Want(n); got != 0 || ok {
		t.Errorf("Want(%d): %d, %t; want nothing", n, got, ok)
	}
}

// stands: these are Last and Limit.
func stands(t *testing.T, o *Oracle, last, limit uint64) {
	t.Helper()
	if o.Last() != last || o.Limit() != limit {
		t.Errorf("Last %d, Limit %d; want %d, %d", o.Last(), o.Limit(), last, limit)
	}
}

// oracle: one that may give room numbers above last.
func oracle(last, room uint64) *Oracle {
	o := New(last)
	o.Grant(last + room)
	return o
}
