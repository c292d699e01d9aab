package order

import (
	"bytes"

	"toolchest/api"
)

// parting is how a line is parted into fields.
type parting struct {
	length  func(rest []byte) int // of the first field of what is left of a line
	between int                   // bytes that stand between two fields
}

// partingOf is how the options let lines be parted; false: they may not be.
func partingOf(l []api.Opt) (parting, bool) {
	fields, ok := parting{lengthByBlanks, 0}, true
	for _, o := range l {
		if o.Letter != 't' {
			continue
		}
		// What an earlier one told, or that it may not be, is of no weight.
		if ok = len(o.Arg) == 1; ok {
			fields = parting{separator(o.Arg[0]).lengthAhead, 1}
		}
	}
	return fields, ok
}

// lengthByBlanks is that of blanks, and of what stands behind them up to the next blank.
func lengthByBlanks(rest []byte) int {
	behind := dropWhile(dropWhile(rest, isBlank), func(c byte) bool { return !isBlank(c) })
	return len(rest) - len(behind)
}

// separator is the byte that stands between two fields.
type separator byte

// lengthAhead is that of what stands ahead of the separator, or of all, if it is not there.
func (s separator) lengthAhead(rest []byte) int {
	i := bytes.IndexByte(rest, byte(s))
	if i < 0 {
		return len(rest)
	}
	return i
}

// field is where the n-th field of a line begins and ends; false: there is none.
func (p parting) field(line []byte, n int) (begin, end int, ok bool) {
	for {
		end = begin + p.length(line[begin:])
		if n == 1 {
			return begin, end, true
		}
		// Behind a separator there is a field, be it without bytes: so no other one follows just where this one ends the line.
		if end == len(line) {
			return 0, 0, false
		}
		begin = end + p.between
		n--
	}
}
