// Package text is layer 1: lines, fields, numbers, and what is said of errors (shared/doc/01-text.md).
package text

import (
	"bytes"
	"iter"
	"strconv"

	"toolchest/api"
)

// words stands in the order of the errors' numbers. 0 is no error: its place has the word of all those that are none.
var words = [...]string{
	"error",
	"no such file",
	"file exists",
	"not a directory",
	"is a directory",
	"directory not empty",
	"no space left",
	"input/output error",
	"broken pipe",
	"interrupted",
	"not now",
	"bad descriptor",
	"too many",
	"bad name",
	"too deep",
	"busy",
	"invalid",
	"bad argument",
	"line too long",
	"usage",
	"bad regular expression",
	"bad script",
	"not found",
	"same file",
	"bad syntax",
	"not a number",
	"not in order",
}

// Lines are the lines of bytes, without their line feeds.
func Lines(b []byte) [][]byte {
	var lines [][]byte
	for piece, ended := range pieces(b, isFeed) {
		if ended || len(piece) > 0 {
			lines = append(lines, bytes.Clone(piece))
		}
	}
	return lines
}

// Fields are the pieces between blanks.
func Fields(b []byte) [][]byte {
	var fields [][]byte
	for piece := range pieces(b, isBlank) {
		if len(piece) > 0 {
			fields = append(fields, bytes.Clone(piece))
		}
	}
	return fields
}

// pieces cuts bytes at each one that is told by cut: each piece, and whether such a byte ended it.
// None ends the last piece, and it may be empty: whether that is one too, only the caller knows.
// The pieces are of b itself.
func pieces(b []byte, cut func(byte) bool) iter.Seq2[[]byte, bool] {
	return func(yield func([]byte, bool) bool) {
		begin := 0
		for i, c := range b {
			if !cut(c) {
				continue
			}
			if !yield(b[begin:i], true) {
				return
			}
			begin = i + 1
		}
		yield(b[begin:], false)
	}
}

func isFeed(c byte) bool { return c == '\n' }

func isBlank(c byte) bool { return c == ' ' || c == '\t' }

// Number reads a number that is at most so great.
func Number(s string, most int) (int, bool) { return read(s, 10, most) }

// Digits is a number in digits to the base 8, 10 or 16, Octal reads one to the base eight.
func Digits(n, base int) string {
	switch base {
	case 8, 10, 16:
		return strconv.FormatInt(int64(n), base)
	}
	return ""
}

func Octal(s string, most int) (int, bool) { return read(s, 8, most) }

// read does not leave this to strconv, which takes signs and knows no most.
func read(s string, base, most int) (int, bool) {
	if s == "" {
		return 0, false
	}
	n := 0
	for i := range len(s) {
		d := int(s[i]) - '0'
		if d < 0 || d >= base {
			return 0, false
		}
		// Asked ahead of the sum: beyond most it might wrap round.
		if d > most || n > (most-d)/base {
			return 0, false
		}
		n = n*base + d
	}
	return n, true
}

// Word is what is said of an error, Diag the line that says it.
func Word(e api.Errno) string {
	if e < 0 || int(e) >= len(words) {
		return words[0]
	}
	return words[e]
}

func Diag(tag, operand string, e api.Errno) []byte {
	line := tag + ": "
	if operand != "" {
		line += operand + ": "
	}
	return []byte(line + Word(e) + "\n")
}
