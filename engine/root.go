package engine

import (
	"strconv"
	"strings"

	"regatta/api"
	"regatta/codec"
)

// An engine's files are its root, the segments of its log, and its tables.
const (
	rootFile  = "root"
	newRoot   = "root.new"
	logName   = "log"
	tableName = "table"
	digits    = 20      // of the number in a segment's or a table's name
	maxNumber = 1 << 63 // no engine comes to a table of that number
)

// root says what counts of all that lies on the disk: the rest was left by a
// crash ahead of a change of the root, or behind it.
type root struct {
	begin  uint64   // the first record of the log that the tables don't tell
	tables []uint64 // their numbers, the newest one first
}

// bytes: a frame of the row of the root's numbers.
func (r root) bytes() []byte {
	fields := [][]byte{codec.Varint(r.begin)}
	for _, number := range r.tables {
		fields = append(fields, codec.Varint(number))
	}
	return codec.Frame(codec.Row(fields...))
}

// takeRoot reads what bytes made.
func takeRoot(b []byte) (root, bool) {
	row, rest, code := codec.TakeFrame(b)
	if code != api.OK || len(rest) > 0 {
		return root{}, false
	}
	fields, code := codec.TakeRow(row)
	if code != api.OK {
		return root{}, false
	}
	numbers := make([]uint64, len(fields))
	for i, f := range fields {
		number, rest, code := codec.TakeVarint(f)
		if code != api.OK || len(rest) > 0 {
			return root{}, false
		}
		numbers[i] = number
	}
	if len(numbers) == 0 || !falling(numbers[1:]) {
		return root{}, false
	}
	return root{begin: numbers[0], tables: numbers[1:]}, true
}

func falling(numbers []uint64) bool {
	above := uint64(maxNumber)
	for _, number := range numbers {
		if number >= above {
			return false
		}
		above = number
	}
	return true
}

// next: the number of the next table.
func (r root) next() uint64 {
	if len(r.tables) == 0 {
		return 1
	}
	return r.tables[0] + 1
}

// files: the names of the tables' files.
func (r root) files() []string {
	out := make([]string, len(r.tables))
	for i, number := range r.tables {
		out[i] = tableFile(number)
	}
	return out
}

func tableFile(number uint64) string {
	text := strconv.FormatUint(number, 10)
	return tableName + "." + strings.Repeat("0", digits-len(text)) + text
}

// isNumbered: is this the name of a segment or of a table?
func isNumbered(file, name string) bool {
	text, ok := strings.CutPrefix(file, name+".")
	return ok && len(text) == digits && strings.Trim(text, "0123456789") == ""
}
