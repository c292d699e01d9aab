package names

import (
	"math"
	"strconv"
	"strings"
)

// readNumber reads an argument's number (of an empty one 0); false: it is none.
func readNumber(s string) (int64, bool) {
	if s == "" {
		return 0, true
	}
	if s[0] == '\'' || s[0] == '"' {
		return byteNumber(s[1:])
	}
	digits, isBelow := strings.CutPrefix(s, "-")
	if !isBelow {
		digits = strings.TrimPrefix(s, "+")
	}
	digits, base := cutBase(digits)
	most := uint64(math.MaxInt64)
	if isBelow {
		most++
	}
	size, err := strconv.ParseUint(digits, base, 64)
	if err != nil || size > most {
		return 0, false
	}
	n := int64(size) // the size of the least number is wrapped round to that number
	if isBelow {
		n = -n
	}
	return n, true
}

// cutBase tells digits from what says their base.
func cutBase(s string) (string, int) {
	switch {
	case strings.HasPrefix(s, "0x"), strings.HasPrefix(s, "0X"):
		return s[2:], 16
	case strings.HasPrefix(s, "0"):
		return s, 8
	}
	return s, 10
}

// byteNumber is that of one byte, or of none.
func byteNumber(s string) (int64, bool) {
	switch len(s) {
	case 0:
		return 0, true
	case 1:
		return int64(s[0]), true
	}
	return 0, false
}
