package names

import (
	"strings"

	"toolchest/text"
)

// mostRoom is how great a width or a precision is at most.
const mostRoom = 1000

// readFormat parts a FORMAT; false: it may not be.
func readFormat(s string) ([]part, bool) {
	var parts []part
	var plain []byte // bytes behind the last conversion
	for s != "" {
		switch c := s[0]; {
		case c == '\\':
			plain, s = escape(plain, s[1:])
		case strings.HasPrefix(s, "%%"):
			plain, s = append(plain, c), s[2:]
		case c == '%':
			put, behind := readConversion(s[1:])
			if put == nil {
				return nil, false
			}
			parts = append(parts, asTheyAre(plain), put)
			plain, s = nil, behind
		default:
			plain, s = append(plain, c), s[1:]
		}
	}
	return append(parts, asTheyAre(plain)), true
}

// asTheyAre puts bytes.
func asTheyAre(b []byte) part {
	return func(p *printer) { p.text = append(p.text, b...) }
}

// readConversion reads what stands behind a `%`, and tells what is left behind that; nil: it may not be.
func readConversion(s string) (part, string) {
	c := conversion{precision: noPrecision}
	for s != "" && c.takeFlag(s[0]) {
		s = s[1:]
	}
	c.width, s = cutRoom(s)
	if behind, ok := strings.CutPrefix(s, "."); ok {
		c.precision, s = cutRoom(behind)
	}
	if s == "" || max(c.width, c.precision) > mostRoom {
		return nil, ""
	}
	return c.byLetter(s[0]), s[1:]
}

// cutRoom reads the digits at a text's beginning: their number (of none 0), or one that is too great; and what stands behind them.
func cutRoom(s string) (int, string) {
	behind := strings.TrimLeft(s, "0123456789")
	digits := s[:len(s)-len(behind)]
	if digits == "" {
		return 0, behind
	}
	n, ok := text.Number(digits, mostRoom)
	if !ok {
		n = mostRoom + 1
	}
	return n, behind
}
