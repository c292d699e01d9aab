package trans

import (
	"strings"

	"toolchest/text"
)

// The letters that stand behind a backslash for another byte, and these bytes, in the same order.
const (
	letters  = "abfnrtv"
	meanings = "\a\b\f\n\r\t\v"
)

// mostOctal is how many digits to the base eight are a sign at most.
const mostOctal = 3

// cutSign parts a text into its first sign, of which it answers the byte, and what stands behind it; false: it has none, being empty.
func cutSign(s string) (byte, string, bool) {
	switch {
	case s == "":
		return 0, "", false
	case s[0] != '\\' || len(s) == 1:
		return s[0], s[1:], true
	}
	s = s[1:]
	if n := countOf(s[:min(len(s), mostOctal)], isOctal); n > 0 {
		number, _ := text.Octal(s[:n], 0o777)
		return byte(number), s[n:], true
	}
	if i := strings.IndexByte(letters, s[0]); i >= 0 {
		return meanings[i], s[1:], true
	}
	return s[0], s[1:], true
}

func isOctal(c byte) bool { return '0' <= c && c <= '7' }

// countOf is how many bytes of a kind a text begins with.
func countOf(s string, isOne func(c byte) bool) int {
	n := 0
	for n < len(s) && isOne(s[n]) {
		n++
	}
	return n
}
