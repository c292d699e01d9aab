package names

import "strings"

// The letters behind backslashes, and what they stand for, in the same order.
const (
	letters = `\abfnrtv`
	signs   = "\\\a\b\f\n\r\t\v"
)

const mostDigits = 3

// escape puts behind b what a backslash and the beginning of s say: that, and what is left of s.
func escape(b []byte, s string) ([]byte, string) {
	if s == "" {
		return append(b, '\\'), ""
	}
	c := s[0]
	if i := strings.IndexByte(letters, c); i >= 0 {
		return append(b, signs[i]), s[1:]
	}
	if isOctal(c) {
		return octal(b, s)
	}
	return append(b, '\\', c), s[1:]
}

func isOctal(c byte) bool { return '0' <= c && c <= '7' }

// octal puts behind b the byte whose number stands at the beginning of s, in at most three digits (of none 0).
func octal(b []byte, s string) ([]byte, string) {
	var c byte // of a number that is too great the lowest bits are left
	n := 0
	for n < min(len(s), mostDigits) && isOctal(s[n]) {
		c = c<<3 + s[n] - '0'
		n++
	}
	return append(b, c), s[n:]
}

// unescaped is an argument with its escapes read; true: it ends all.
func unescaped(s string) (string, bool) {
	var b []byte
	for s != "" {
		switch {
		case strings.HasPrefix(s, `\c`):
			return string(b), true
		case strings.HasPrefix(s, `\0`):
			b, s = octal(b, s[2:])
		case s[0] == '\\':
			b, s = escape(b, s[1:])
		default:
			b, s = append(b, s[0]), s[1:]
		}
	}
	return string(b), false
}
