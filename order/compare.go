package order

import (
	"bytes"
	"cmp"
)

// comparing is how the bytes of two keys, or of two lines, are compared.
type comparing func(a, b []byte) int

// comparing is how these flags let keys be compared. Where that is as numbers, no flag says which bytes count.
func (f flags) comparing() comparing {
	compare := comparing(bytes.Compare)
	switch {
	case f.has(numeric):
		compare = compareNumbers
	case f.has(dictionary | printable | foldCase):
		compare = f.compareBytes
	}
	if f.has(reverse) {
		return compare.otherWay
	}
	return compare
}

func (c comparing) otherWay(a, b []byte) int { return c(b, a) }

// compareBytes compares those bytes that count.
func (f flags) compareBytes(a, b []byte) int {
	for {
		var x, y int
		x, a = f.next(a)
		y, b = f.next(b)
		if x != y || x == atEnd {
			return cmp.Compare(x, y)
		}
	}
}

// atEnd is less than any byte, so that the beginning of another one is less.
const atEnd = -1

// next is the value of the next byte that counts, and what stands behind it.
func (f flags) next(b []byte) (int, []byte) {
	for i, c := range b {
		if f.counts(c) {
			return f.valueOf(c), b[i+1:]
		}
	}
	return atEnd, nil
}

// number has any number of digits, so it stays as it is written: without noughts ahead, a greater one has more digits, or greater ones.
type number struct {
	sign   int // below 0, 0, above 0
	digits []byte
}

// numberOf is the number at the beginning of bytes; 0, if there is none.
func numberOf(b []byte) number {
	b = dropWhile(b, isBlank)
	sign := 1
	if len(b) > 0 && b[0] == '-' {
		sign = -1
		b = b[1:]
	}
	digits := dropWhile(b, func(c byte) bool { return c == '0' })
	digits = digits[:len(digits)-len(dropWhile(digits, isDigit))]
	if len(digits) == 0 {
		sign = 0
	}
	return number{sign, digits}
}

func compareNumbers(a, b []byte) int {
	x, y := numberOf(a), numberOf(b)
	if x.sign != y.sign {
		return cmp.Compare(x.sign, y.sign)
	}
	if x.sign < 0 {
		x, y = y, x
	}
	if len(x.digits) != len(y.digits) {
		return cmp.Compare(len(x.digits), len(y.digits))
	}
	return bytes.Compare(x.digits, y.digits)
}

// dropWhile is what is left behind the first bytes that are such.
func dropWhile(b []byte, such func(c byte) bool) []byte {
	for i, c := range b {
		if !such(c) {
			return b[i:]
		}
	}
	return nil
}
