package order

import (
	"strings"

	"toolchest/api"
)

// flags are how keys are found and compared.
type flags uint

const (
	skipBlanks flags = 1 << iota // a place is counted from the field's first byte that is no blank on
	dictionary                   // only blanks, letters and digits count
	foldCase                     // small letters count as great ones
	printable                    // only the bytes 32 to 126 count
	numeric                      // numbers are compared
	reverse                      // the other way round
)

// flagLetters stand in the order of the flags' bits.
const flagLetters = "bdfinr"

// flagOf is the flag of a letter; none of any other byte.
func flagOf(letter byte) flags {
	i := strings.IndexByte(flagLetters, letter)
	if i < 0 {
		return 0
	}
	return 1 << i
}

// flagsOf are those of the whole order.
func flagsOf(l []api.Opt) flags {
	var all flags
	for _, o := range l {
		all |= flagOf(o.Letter)
	}
	return all
}

// has tells whether one of these flags is there.
func (f flags) has(some flags) bool { return f&some != 0 }

// counts tells whether a byte does.
func (f flags) counts(c byte) bool {
	if f.has(dictionary) && !isBlank(c) && !isLetter(c) && !isDigit(c) {
		return false
	}
	return !f.has(printable) || c >= 32 && c <= 126
}

// valueOf is what a byte that counts is compared as.
func (f flags) valueOf(c byte) int {
	if f.has(foldCase) && c >= 'a' && c <= 'z' {
		c -= 'a' - 'A'
	}
	return int(c)
}

func isBlank(c byte) bool { return c == ' ' || c == '\t' }

func isLetter(c byte) bool { return c >= 'A' && c <= 'Z' || c >= 'a' && c <= 'z' }

func isDigit(c byte) bool { return c >= '0' && c <= '9' }
