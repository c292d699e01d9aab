package names_test

import (
	"strings"
	"testing"
)

// P19.3: s, c and b.

func TestTexts(t *testing.T) {
	for _, c := range []struct{ format, arg, out string }{
		{"[%s]", "", "[]"},
		{"[%s]", "ab", "[ab]"},
		{"[%s]", "a b\n", "[a b\n]"},
		{"[%s]", `a\nb\\`, `[a\nb\\]`},
		{"[%s]", "\x00\xff", "[\x00\xff]"},
		{"[%1s]", "ab", "[ab]"},
		{"[%2s]", "ab", "[ab]"},
		{"[%5s]", "ab", "[   ab]"},
		{"[%-5s]", "ab", "[ab   ]"},
		{"[%5s]", "", "[     ]"},
		{"[%-5s]", "", "[     ]"},
		{"[%-s]", "ab", "[ab]"},
		{"[%.s]", "ab", "[]"},
		{"[%.0s]", "ab", "[]"},
		{"[%.1s]", "ab", "[a]"},
		{"[%.2s]", "ab", "[ab]"},
		{"[%.3s]", "ab", "[ab]"},
		{"[%.1s]", "", "[]"},
		{"[%.1s]", "ä", "[\xc3]"}, // by bytes
		{"[%3s]", "ä", "[ ä]"},
		{"[%5.1s]", "ab", "[    a]"},
		{"[%-5.1s]", "ab", "[a    ]"},
		{"[%5.0s]", "ab", "[     ]"},
		{"[%-5.s]", "ab", "[     ]"},
		{"[%2.5s]", "abcdefg", "[abcde]"},
		// Other flags say nothing of texts.
		{"[%05s]", "ab", "[   ab]"},
		{"[%-05s]", "ab", "[ab   ]"},
		{"[%0s]", "ab", "[ab]"},
		{"[%+s]", "ab", "[ab]"},
		{"[% s]", "ab", "[ab]"},
		{"[%#s]", "ab", "[ab]"},
		{"[%+ #05s]", "7", "[    7]"},
		{"[%+ #05.3s]", "12345", "[  123]"},
		// c: the first byte.
		{"[%c]", "", "[]"},
		{"[%c]", "a", "[a]"},
		{"[%c]", "abc", "[a]"},
		{"[%c]", " a", "[ ]"},
		{"[%c]", `\n`, `[\]`},
		{"[%c]", "\x00a", "[\x00]"},
		{"[%c]", "ä", "[\xc3]"},
		{"[%c]", "65", "[6]"},
		{"[%1c]", "abc", "[a]"},
		{"[%4c]", "abc", "[   a]"},
		{"[%-4c]", "abc", "[a   ]"},
		{"[%4c]", "", "[    ]"},
		{"[%-4c]", "", "[    ]"},
		{"[%04c]", "abc", "[   a]"},
		{"[%-04c]", "abc", "[a   ]"},
		{"[%+ #4c]", "abc", "[   a]"},
		{"[%.0c]", "abc", "[a]"}, // a precision says nothing of it
		{"[%.c]", "abc", "[a]"},
		{"[%.3c]", "abc", "[a]"},
		{"[%4.0c]", "abc", "[   a]"},
		{"[%-4.2c]", "abc", "[a   ]"},
		{"[%4.2c]", "", "[    ]"},
	} {
		tells(t, c.out, "printf", c.format, c.arg)
		tells(t, c.out+c.out, "printf", c.format, c.arg, c.arg)
	}
}

func TestEscapesOfArguments(t *testing.T) {
	for _, c := range []struct{ format, arg, out string }{
		{"[%b]", "", "[]"},
		{"[%b]", "ab", "[ab]"},
		{"[%b]", "a b%s%%", "[a b%s%%]"},
		{"[%b]", `\\\a\b\f\n\r\t\v`, "[\\\x07\x08\x0c\x0a\x0d\x09\x0b]"},
		{"[%b]", `a\nb`, "[a\nb]"},
		{"[%b]", `\\n`, `[\n]`},
		{"[%b]", `\q\8\"\ \%`, `[\q\8\"\ \%]`},
		{"[%b]", `\`, `[\]`},
		{"[%b]", `a\`, `[a\]`},
		{"[%b]", `\\\`, `[\\]`},
		{"[%b]", "\\\xff\xfe", "[\\\xff\xfe]"},
		// Digits to the base eight, behind a nought one more.
		{"[%b]", `\1`, "[\x01]"},
		{"[%b]", `\12`, "[\n]"},
		{"[%b]", `\101`, "[A]"},
		{"[%b]", `\1011`, "[A1]"},
		{"[%b]", `\777`, "[\xff]"},
		{"[%b]", `\0`, "[\x00]"},
		{"[%b]", `\0a`, "[\x00a]"},
		{"[%b]", `\08`, "[\x008]"},
		{"[%b]", `\00`, "[\x00]"},
		{"[%b]", `\000`, "[\x00]"},
		{"[%b]", `\0000`, "[\x00]"},
		{"[%b]", `\00000`, "[\x000]"},
		{"[%b]", `\07`, "[\x07]"},
		{"[%b]", `\012`, "[\n]"},
		{"[%b]", `\0012`, "[\n]"},
		{"[%b]", `\0101`, "[A]"},
		{"[%b]", `\01011`, "[A1]"},
		{"[%b]", `\010`, "[\x08]"},
		{"[%b]", `\0108`, "[\x088]"},
		{"[%b]", `\0377`, "[\xff]"},
		{"[%b]", `\0400\0401`, "[\x00\x01]"},
		{"[%b]", `\0777`, "[\xff]"},
		{"[%b]", `\07777`, "[\xff7]"},
		{"[%b]", `\0\0101\1`, "[\x00A\x01]"},
		{"[%b]", `\\0101`, `[\0101]`},
		{"[%b]", `\0134n`, `[\n]`},   // what an escape makes is no part of another one
		{"[%b]", `\0134c`, `[\c]`},   // nor
		{"[%b]", `\0045s`, "[%s]"},   // of a conversion
		{"[%s]", `\0101`, `[\0101]`}, // s reads none
		// Width and precision go by what escapes make.
		{"[%5b]", "ab", "[   ab]"},
		{"[%-5b]", "ab", "[ab   ]"},
		{"[%5b]", "", "[     ]"},
		{"[%05b]", "ab", "[   ab]"},
		{"[%+ #5b]", "ab", "[   ab]"},
		{"[%5b]", `\0101\n`, "[   A\n]"},
		{"[%-5b]", `\0101\n`, "[A\n   ]"},
		{"[%.b]", `\0101\n`, "[]"},
		{"[%.0b]", `ab`, "[]"},
		{"[%.1b]", `\0101\n`, "[A]"},
		{"[%.2b]", `\0101\n\t`, "[A\n]"},
		{"[%.3b]", `\q\0101`, `[\qA]`},
		{"[%.1b]", `\q`, `[\]`},
		{"[%4.1b]", `\0101\n`, "[   A]"},
		{"[%-4.2b]", `\0101\n\t`, "[A\n  ]"},
		{"[%.9b]", `\0101`, "[A]"},
	} {
		tells(t, c.out, "printf", c.format, c.arg)
		tells(t, c.out+c.out, "printf", c.format, c.arg, c.arg)
	}
}

// A `\c` in an argument of b ends all that is told behind that conversion.
func TestEndOfAll(t *testing.T) {
	for _, c := range []struct {
		format, out string
		args        []string
	}{
		{"[%b]", "[", []string{`\c`}},
		{"[%b]", "[ab", []string{`ab\c`}},
		{"[%b]", "[a", []string{`a\cb`}},
		{"[%b]", "[", []string{`\cab`}},
		{"[%b]", "[a\n", []string{`a\n\c\n`}},
		{"[%b]", `[\c]`, []string{`\\c`}},
		{"[%b]", `[\`, []string{`\\\c`}},
		{"[%b]", "[a", []string{`a\c\c`}},
		{"[%b]", "[A", []string{`\0101\c`}},
		{"[%b]", "[\x00", []string{`\0\c`}},
		{"[%b]", "[c]", []string{"c"}},
		{"[%b]", `[\C]`, []string{`\C`}},
		{"[%s]", `[a\c][b]`, []string{`a\c`, "b"}},
		{"[%c]", `[\]`, []string{`\c`}},
		{`[%b\c]`, `[a\c]`, []string{"a"}},
		{"%b%%", "a", []string{`a\c`}},
		{`%b\n`, "a", []string{`a\c`}},
		// Neither the next letters nor the next arguments.
		{"[%b|%s]", "[a", []string{`a\c`, "b"}},
		{"[%b|%s]", "[a", []string{`a\c`, "b", "c", "d"}},
		{"[%s|%b]", "[x|a", []string{"x", `a\c`, "b", "c"}},
		{"[%b]", "[a][b", []string{"a", `b\c`, "c"}},
		{"%b,", "a,b,c", []string{"a", "b", `c\cd`, "e"}},
		{"[%b|%d]", "[a", []string{`a\c`, "x"}}, // so that none is said to be no number
		{"[%b|%d]", "[a|1][b", []string{"a", "1", `b\c`, "x"}},
		{"[%b%b]", "[a", []string{`a\c`, `b\c`}},
		// With its blanks.
		{"[%5b]", "[   ab", []string{`ab\cd`}},
		{"[%-5b]", "[ab   ", []string{`ab\cd`}},
		{"[%5b]", "[     ", []string{`\c`}},
		{"[%-5b]", "[     ", []string{`\c`}},
		{"[%05b]", "[    a", []string{`a\c`}},
		{"[%.1b]", "[a", []string{`ab\c`}}, // also behind what is left by the precision
		{"[%.2b]", "[ab", []string{`ab\c`}},
		{"[%.3b]", "[ab", []string{`ab\cde`}},
		{"[%.0b]", "[", []string{`ab\c`, "c"}},
		{"[%4.1b]", "[   a", []string{`ab\c`}},
		{"[%-4.1b]", "[a   ", []string{`ab\c`}},
		{"%b", "", []string{`\c`}},
		{"%b%s", "", []string{`\c`, "a"}},
	} {
		tells(t, c.out, append([]string{"printf", c.format}, c.args...)...)
	}
	// What was said ahead of it is said.
	says(t, "0,a", "printf: x: not a number\n", 1, "printf", "%d,%b,%d", "x", `a\c`, "y")
	says(t, "0,a,0;0,", "printf: x: not a number\nprintf: y: not a number\nprintf: z: not a number\n", 1, "printf", "%d,%b,%d;", "x", "a", "y", "z", `\c`, "w")
	long := strings.Repeat(`a\0`, 3000)
	tells(t, strings.Repeat("a\x00", 3000), "printf", "%b%s", long+`\c`+long, "b")
}
