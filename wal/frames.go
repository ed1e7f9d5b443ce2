package wal

import (
	"iter"

	"regatta/api"
	"regatta/codec"
)

// frames walks over the whole frames with which b begins: the record of each, and how many bytes it takes in its frame.
func frames(b []byte) iter.Seq2[[]byte, int] {
	return func(yield func(record []byte, size int) bool) {
		for {
			record, size := takeFrame(b)
			if size == 0 || !yield(record, size) {
				return
			}
			b = b[size:]
		}
	}
}

// least is how many bytes are looked at first: most frames are shorter.
const least = 64

// takeFrame reads the frame with which b begins, and tells its size; 0, if b
// begins with none. What stands behind a frame is copied when it is taken: so
// only a beginning of b is handed on, doubled for as long as it is too short.
func takeFrame(b []byte) ([]byte, int) {
	for some := least; ; some *= 2 {
		some = min(some, len(b))
		record, rest, e := codec.TakeFrame(b[:some])
		if e == api.OK {
			return record, some - len(rest)
		}
		if e != api.ErrShort || some == len(b) {
			return nil, 0
		}
	}
}
