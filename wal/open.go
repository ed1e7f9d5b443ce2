package wal

import (
	"strconv"
	"strings"

	"regatta/api"
	"regatta/disk"
)

const (
	maxName  = 40      // bytes of a log's name
	digits   = 20      // of a segment's number in its file's name
	maxBegin = 1 << 63 // the greatest number with which a segment that is found may begin
)

// Open: the log that stands on the disk under that name.
func Open(d *disk.Disk, name string, size int) (*Log, api.Errno) {
	if d == nil || name == "" || len(name) > maxName || size < 1 {
		return nil, api.ErrArg
	}
	l := &Log{disk: d, name: name, size: size}
	// What may find the log broken comes ahead of what changes its segments: a broken one stays as it is.
	for _, step := range []func() api.Errno{l.tidy, l.find, l.readWhole, l.readLast, l.syncAll} {
		if e := step(); e != api.OK {
			return nil, e
		}
	}
	return l, api.OK
}

// tidy removes what an Open left over that the disk broke off.
func (l *Log) tidy() api.Errno {
	if e := l.disk.Remove(l.spare()); e != api.ErrFile {
		return e
	}
	return api.OK
}

// find takes the segments from the names of the files. The disk tells names
// byte by byte: of numbers with the same count of digits that is their order.
func (l *Log) find() api.Errno {
	prefix := l.name + "."
	for _, file := range l.disk.Names() {
		text, ok := strings.CutPrefix(file, prefix)
		if !ok || !isNumber(text) {
			continue
		}
		begin, err := strconv.ParseUint(text, 10, 64)
		if err != nil || begin == 0 || begin > maxBegin {
			return api.ErrBroken
		}
		l.segments = append(l.segments, segment{begin: begin})
	}
	if len(l.segments) > 0 {
		return api.OK
	}
	l.segments = []segment{{begin: 1}}
	return l.disk.Write(l.file(1), nil)
}

// readWhole reads each segment but the last one: nothing but frames stands in it, and the next one goes on behind it.
func (l *Log) readWhole() api.Errno {
	for i := range len(l.segments) - 1 {
		s := &l.segments[i]
		b, e := l.read(s)
		if e != api.OK {
			return e
		}
		if s.bytes < len(b) || s.next() != l.segments[i+1].begin {
			return api.ErrBroken
		}
	}
	return api.OK
}

// readLast reads the last segment, and cuts off its torn end.
func (l *Log) readLast() api.Errno {
	b, e := l.read(l.last())
	if e != api.OK {
		return e
	}
	if whole := l.last().bytes; whole < len(b) {
		return l.renew(b[:whole])
	}
	return api.OK
}

// read takes as many records of a segment as there are whole frames; what its file has.
func (l *Log) read(s *segment) ([]byte, api.Errno) {
	b, e := l.disk.Read(l.file(s.begin))
	if e != api.OK {
		return nil, e
	}
	for record, size := range frames(b) {
		s.add(record, size)
	}
	return b, api.OK
}

// renew puts a new file with these bytes in the last segment's place. It is synced ahead of its name: a crash leaves the old one or all of the new one.
func (l *Log) renew(b []byte) api.Errno {
	if e := l.disk.Write(l.spare(), b); e != api.OK {
		return e
	}
	if e := l.disk.Sync(l.spare()); e != api.OK {
		return e
	}
	return l.disk.Rename(l.spare(), l.file(l.last().begin))
}

func (l *Log) syncAll() api.Errno {
	for _, s := range l.segments {
		if e := l.disk.Sync(l.file(s.begin)); e != api.OK {
			return e
		}
	}
	return api.OK
}

// file is the name of the segment's file that begins with that number.
func (l *Log) file(begin uint64) string {
	text := strconv.FormatUint(begin, 10)
	return l.name + "." + strings.Repeat("0", digits-len(text)) + text
}

// spare is the name of the file that comes in the place of one with a torn end.
func (l *Log) spare() string { return l.name + ".new" }

func isNumber(text string) bool {
	return len(text) == digits && strings.Trim(text, "0123456789") == ""
}
