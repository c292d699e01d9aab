package logic

import (
	"cmp"
	"math"
	"strconv"
)

// readNumber reads a number; false: it is none.
func readNumber(s string) (int64, bool) {
	n, err := strconv.ParseInt(s, 10, 64)
	if err != nil || s[0] == '+' {
		return 0, false
	}
	return n, true
}

// readBoth reads two numbers; what is wrong is of the first one that is none.
func readBoth(a, b string) (int64, int64, error) {
	x, ok := readNumber(a)
	if !ok {
		return 0, 0, &wrong{a, errNumber}
	}
	y, ok := readNumber(b)
	if !ok {
		return 0, 0, &wrong{b, errNumber}
	}
	return x, y, nil
}

// The comparisons, by what the first of two is to the second one: below 0, if it is below it, 0, if it is the same.
func isSame(order int) bool     { return order == 0 }
func isOther(order int) bool    { return order != 0 }
func isAbove(order int) bool    { return order > 0 }
func isNotBelow(order int) bool { return order >= 0 }
func isBelow(order int) bool    { return order < 0 }
func isNotAbove(order int) bool { return order <= 0 }

// compare holds numbers against each other, if both are, else texts.
func compare(a, b string) int {
	x, y, err := readBoth(a, b)
	if err != nil {
		return cmp.Compare(a, b)
	}
	return cmp.Compare(x, y)
}

// The reckonings of two numbers; false: what comes of them can't be a number.

func sum(a, b int64) (int64, bool) {
	if b > 0 && a > math.MaxInt64-b || b < 0 && a < math.MinInt64-b {
		return 0, false
	}
	return a + b, true
}

func difference(a, b int64) (int64, bool) {
	if b > 0 && a < math.MinInt64+b || b < 0 && a > math.MaxInt64+b {
		return 0, false
	}
	return a - b, true
}

func product(a, b int64) (int64, bool) {
	if b == 0 {
		return 0, true
	}
	n := a * b
	// The least number by -1 is wrapped round to itself there and back.
	if n/b != a || a == math.MinInt64 && b == -1 {
		return 0, false
	}
	return n, true
}

func quotient(a, b int64) (int64, bool) {
	if b == 0 || a == math.MinInt64 && b == -1 {
		return 0, false
	}
	return a / b, true
}

func rest(a, b int64) (int64, bool) {
	if b == 0 {
		return 0, false
	}
	return a % b, true
}
