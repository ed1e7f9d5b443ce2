package conf

import (
	"regatta/api"
	"regatta/codec"
)

// Encode: a row of three rows: the voters, those of before, the learners.
func Encode(c api.Conf) []byte {
	return codec.Row(numbers(c.Voters), numbers(c.Old), numbers(c.Learners))
}

// Decode reads what Encode made, of a configuration that Check refuses, too.
func Decode(b []byte) (api.Conf, api.Errno) {
	fields, e := codec.TakeRow(b)
	var lists [3][]uint64
	if e != api.OK || len(fields) != len(lists) {
		return api.Conf{}, api.ErrForm
	}
	for i, f := range fields {
		if lists[i], e = takeNumbers(f); e != api.OK {
			return api.Conf{}, api.ErrForm
		}
	}
	return api.Conf{Voters: lists[0], Old: lists[1], Learners: lists[2]}, api.OK
}

func numbers(l []uint64) []byte {
	var fields [][]byte
	for _, n := range l {
		fields = append(fields, codec.Varint(n))
	}
	return codec.Row(fields...)
}

func takeNumbers(b []byte) ([]uint64, api.Errno) {
	fields, e := codec.TakeRow(b)
	if e != api.OK {
		return nil, e
	}
	var l []uint64
	for _, f := range fields {
		n, rest, e := codec.TakeVarint(f)
		if e != api.OK || len(rest) > 0 {
			return nil, api.ErrForm
		}
		l = append(l, n)
	}
	return l, api.OK
}
