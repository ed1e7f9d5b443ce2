package region

import (
	"testing"

	"regatta/api"
)

func TestNewer(t *testing.T) { // P10.2
	rows := []struct {
		a, b string
		is   bool
	}{
		{"1/2", "5/1", true}, {"5/1", "1/2", false}, // Version counts ahead of Conf
		{"2/1", "1/1", true}, {"1/1", "2/1", false}, {"1/1", "1/1", false}, {"0/0", "0/0", false},
		{"9/1", "1/9", false}, {"1/9", "9/1", true}, {"2/2", "1/1", true},
		{"0/18446744073709551615", "18446744073709551615/18446744073709551614", true},
		{"18446744073709551615/0", "18446744073709551614/0", true}, {"18446744073709551615/0", "0/1", false},
		{"9223372036854775808/1", "1/1", true}, {"1/9223372036854775808", "1/1", true}, {"1/1", "1/9223372036854775808", false},
	}
	for _, r := range rows {
		wantIs(t, "Newer("+r.a+", "+r.b+")", Newer(epoch(r.a), epoch(r.b)), r.is)
	}
}

func TestStale(t *testing.T) { // P10.2
	rows := []struct {
		r, e string
		is   bool
	}{
		{"1/2", "1/1", true}, {"1/2", "2/2", false}, {"1/2", "1/2", false}, {"1/2", "9/9", false},
		{"3/4", "2/4", true}, {"3/4", "3/3", true}, {"3/4", "2/9", true}, {"3/4", "9/3", true}, {"3/4", "2/3", true}, {"3/4", "3/5", false}, {"3/4", "4/4", false},
		{"0/0", "0/0", false}, {"0/1", "18446744073709551615/0", true}, {"1/0", "0/18446744073709551615", true},
		{"18446744073709551615/18446744073709551615", "18446744073709551615/18446744073709551615", false},
		{"18446744073709551615/1", "18446744073709551614/1", true}, {"1/9223372036854775808", "1/1", true},
	}
	for _, r := range rows {
		wantIs(t, "Stale("+r.r+", "+r.e+")", Stale(of("1 - - "+r.r), epoch(r.e)), r.is)
		wantIs(t, "Stale of one that Check refuses", Stale(of("0 b a "+r.r+" 0@0"), epoch(r.e)), r.is)
	}
}

func TestEpochsByNumbers(t *testing.T) { // P10.2: each against each
	numbers := []uint64{0, 1, 2, 1 << 63, top - 1, top}
	var l []api.Epoch
	for _, c := range numbers {
		for _, v := range numbers {
			l = append(l, api.Epoch{Conf: c, Version: v})
		}
	}
	for _, a := range l {
		for _, b := range l {
			newer := a.Version > b.Version || a.Version == b.Version && a.Conf > b.Conf
			stale := b.Version < a.Version || b.Conf < a.Conf
			if Newer(a, b) != newer || Stale(api.Region{Epoch: a}, b) != stale {
				t.Errorf("%v, %v: Newer %t, Stale %t", a, b, !newer, !stale)
			}
		}
	}
}
