package width_test

import (
	"strings"
	"testing"
)

// P11.3

func TestExpand(t *testing.T) {
	for _, c := range []struct{ in, list, out string }{
		{"a\tb", "4", "a   b"},
		{"\t", "4", "    "},
		{"\t\n", "4", "    \n"},
		{"abc\td", "4", "abc d"},
		{"abcd\te", "4", "abcd    e"}, // at a stop
		{"abcde\tf", "4", "abcde   f"},
		{"\t\t", "4", "        "},
		{"a\tb\n\tc\n", "4", "a   b\n    c\n"}, // each line begins at 0
		{"\ta", "1", " a"},
		{"a\t\tb", "1", "a  b"},
		{"", "4", ""},
		{"\n\n", "4", "\n\n"},
		{"a b\n", "4", "a b\n"},
		{"  \ta", "4", "    a"},
		{"\ta\tb\tc\td", "3,7", "   a   b c d"}, // behind the last one a tab is a blank
		{"abc\td", "3,7", "abc    d"},
		{"abcdefg\th", "3,7", "abcdefg h"},
		{"abcdefgh\ti", "3,7", "abcdefgh i"},
		{"\t\t\t\t", "3 7", "         "},
		{"\ta\tb", "3\t7", "   a   b"},
		{"\t\ta", "1,2", "  a"},
		{"\t\ta", "2,12", "            a"},
		{"abc\n", "2147483647", "abc\n"},
		{"\tabc\n", "1,2147483647", " abc\n"},
		{"ab\b\tc", "4", "ab\b   c"}, // backspaces
		{"\b\b\tc", "4", "\b\b    c"},
		{"\t\b\tc", "4", "    \b c"},
		{"abc\b\b\b\b\td", "4", "abc\b\b\b\b    d"},
		{"\t\t\b\tc", "2,4", "    \b c"},
		{"\t\t\b\b\b\b\tc", "2,4", "    \b\b\b\b  c"},
		{"ab\r\tc", "4", "ab\r c"}, // a carriage return moves on
		{"\r\r\r\r\tc", "4", "\r\r\r\r    c"},
		{"\x00\xff\t\v\n", "4", "\x00\xff  \v\n"},
		{"\u00e4\tb", "4", "\u00e4  b"}, // bytes
	} {
		comesAnyhow(t, c.in, c.out, "expand", "-t", c.list)
		comesAnyhow(t, c.in, c.out, "expand", "-t"+c.list, "--", "-")
	}
	for _, c := range []struct{ in, out string }{ // 8
		{"\ta", "        a"},
		{"1234567\ta", "1234567 a"},
		{"12345678\ta", "12345678        a"},
		{"1\t2\t3\n", "1       2       3\n"},
	} {
		comesAnyhow(t, c.in, c.out, "expand")
		comesAnyhow(t, c.in, c.out, "expand", "-")
		comesAnyhow(t, c.in, c.out, "expand", "-t", "8")
	}
}

// P11.4

func TestUnexpand(t *testing.T) {
	for _, c := range []struct{ in, out string }{
		{"        a", "\ta"},
		{"         a", "\t a"},
		{"       a", "       a"},
		{"                a", "\t\ta"},
		{"                 a\n", "\t\t a\n"},
		{"        ", "\t"},
		{"        \n        \n", "\t\n\t\n"},
		{"a        b", "a        b"}, // not at the beginning
		{"        a        b", "\ta        b"},
		{"a\t  \tb", "a\t  \tb"},
		{" a", " a"},
		{" ", " "},
		{"  ", "  "},
		{"\ta", "\ta"},
		{"\t\ta", "\t\ta"},
		{" \ta", "\ta"},
		{"       \ta", "\ta"},
		{"        \ta", "\t\ta"},
		{"\t        a", "\t\ta"},
		{"\t  a", "\t  a"},
		{"   \t   \ta", "\t\ta"},
		{"\t \t a", "\t\t a"},
		{"", ""},
		{"\n", "\n"},
		{"\b        a", "\b        a"}, // it stands behind a byte
		{"\r        a", "\r        a"},
		{"\x00         a", "\x00         a"},
	} {
		comesAnyhow(t, c.in, c.out, "unexpand")
		comesAnyhow(t, c.in, c.out, "unexpand", "--", "-")
	}
}

func TestUnexpandAll(t *testing.T) {
	for _, c := range []struct{ in, out string }{
		{"        a", "\ta"},
		{"a       b", "a\tb"},
		{"a        b", "a\t b"},
		{"a      b", "a      b"},
		{"a               b", "a\t\tb"},
		{"        a       b\n", "\ta\tb\n"},
		{"abcdefg h", "abcdefg h"}, // one blank, up to a stop
		{"abcdefg  h", "abcdefg\t h"},
		{"abcdef  h", "abcdef\th"},
		{"abcdefg\th", "abcdefg\th"},
		{"abcdefg \th", "abcdefg\t\th"},
		{"abcdef \th", "abcdef\th"},
		{"ab  cd", "ab  cd"},
		{"a\tb", "a\tb"},
		{"a \t b  \t c", "a\t b\t c"},
		{"a       ", "a\t"},
		{"a ", "a "},
		{" \n", " \n"},
		{"abcdefgh ", "abcdefgh "},
		{"\v       a", "\v\ta"},
	} {
		comesAnyhow(t, c.in, c.out, "unexpand", "-a")
		comesAnyhow(t, c.in, c.out, "unexpand", "-aa", "-")
		comesAnyhow(t, c.in, c.out, "unexpand", "-t", "8")
		comesAnyhow(t, c.in, c.out, "unexpand", "-at8")
	}
}

func TestUnexpandByStops(t *testing.T) {
	for _, c := range []struct{ in, list, out string }{
		{"a   b", "4", "a\tb"},
		{"a b   c", "4", "a b\t  c"},
		{"abc d", "4", "abc d"},
		{"abc  d", "4", "abc\t d"},
		{"            x", "4", "\t\t\tx"},
		{"              x", "4", "\t\t\t  x"},
		{" a", "1", " a"},
		{"  a", "1", "\t\ta"},
		{"a b  c", "1", "a b\t\tc"},
		{"          x", "3,7", "\t\t   x"}, // behind the last one there are blanks
		{"       x", "3,7", "\t\tx"},
		{"      x", "3,7", "\t   x"},
		{"   x", "3 7", "\tx"},
		{"  x", "3\t7", "  x"},
		{"a\t\t\tb", "3,7", "a\t\t b"}, // a tab moves one column there
		{"a\t\t\t\tb", "3,7", "a\t\t  b"},
		{"1234567\tx", "3,7", "1234567 x"},
		{"12345678\t\tx", "3,7", "12345678  x"},
		{"123456 x", "3,7", "123456 x"},
		{"123456\tx", "3,7", "123456\tx"},
		{"123456 \tx", "3,7", "123456\t x"},
		{"1234567  x", "3,7", "1234567  x"},
		{"12345678 \t x", "3,7", "12345678   x"},
		{"     a     b", "1,2,12", "\t\t   a     b"},
		{"     a      b", "1,2,12", "\t\t   a\tb"},
		{"\t \ta", "2147483647", "\t\ta"},
		{"\t\ta", "1,2147483647", "\t\ta"},
		{"\t\t \t a", "1,2147483647", "\t\t   a"},
		{"   a", "2147483647", "   a"},
		{"ab\b  c", "4", "ab\b  c"}, // backspaces
		{"ab\b   c", "4", "ab\b\tc"},
		{"\b    c", "4", "\b\tc"},
		{"    \b    c", "4", "\t\b\t   c"},
		{"\t\b c", "4", "\t\b c"},
		{"abcd\b\b\b\b\b  c", "2", "abcd\b\b\b\b\b\tc"},
		{"a\r  c", "4", "a\r\tc"}, // a carriage return moves on
		{"\r   c", "4", "\r\tc"},
		{"\x00\xff  c", "4", "\x00\xff\tc"},
		{"\u00e4  c", "4", "\u00e4\tc"}, // bytes
		{"a\u00a0   c", "4", "a\u00a0\t  c"},
	} {
		comesAnyhow(t, c.in, c.out, "unexpand", "-t", c.list)
		comesAnyhow(t, c.in, c.out, "unexpand", "-a", "-t", c.list)
		comesAnyhow(t, c.in, c.out, "unexpand", "-t"+c.list, "-a", "--", "-")
	}
}

func TestOptionsOfTabs(t *testing.T) {
	for _, args := range []string{
		"expand -t", "expand -x", "expand -4", "expand -a", "expand -i", "expand -t 4 -x", "expand -T 4", "expand --t 4", "expand -t -- f", "expand -t - f", "expand -t 4 -t 0", "expand -\xff",
		"unexpand -t", "unexpand -x", "unexpand -4", "unexpand -ax", "unexpand -A", "unexpand -a -t", "unexpand --a", "unexpand -ta f", "unexpand -f", "unexpand -t 4 -t x -a f",
	} {
		refuses(t, strings.Fields(args)...)
	}
	for _, list := range wrongStops() {
		for _, name := range []string{"expand", "unexpand"} {
			refuses(t, name, "-t", list)
			refuses(t, name, "-t", "4", "-t", list, "f")
		}
	}
	// Of several of one letter the last one counts, also where an earlier one may not be.
	comesAnyhow(t, "a\tb", "a b", "expand", "-t", "4", "-t", "2")
	comesAnyhow(t, "a\tb", "a b", "expand", "-t", "", "-t", "2,1", "-t2")
	comesAnyhow(t, "a   b", "a\tb", "unexpand", "-t", "3", "-t", "x", "-t", "4")
	comes(t, job("q", "expand f -t 4"), "one\ntwo", "expand: -t: no such file\nexpand: 4: no such file\n", 1)
	comes(t, job("q", "unexpand -- -a"), "", "unexpand: -a: no such file\n", 1)
}

// Every line of up to seven of these bytes.
func TestTabsOfEveryShortLine(t *testing.T) {
	lines := everyText(7, "a", " ", "\t", "\b")
	for _, list := range []string{"1", "2", "3", "4", "8", "1,2", "2,3", "2,5", "1,3,4", "3,100"} {
		stops := stopsOf(list)
		for _, command := range []string{"expand -t", "unexpand -t", "unexpand -at", "unexpand"} {
			var want strings.Builder
			for _, line := range lines {
				if command == "expand -t" {
					want.WriteString(expandOf(line, stops) + "\n")
				} else {
					want.WriteString(unexpandOf(line, stops, command != "unexpand") + "\n")
				}
			}
			j := jobOf(strings.Join(lines, "\n")+"\n", append(strings.Fields(command), list)...)
			if command == "unexpand" && list != "8" {
				continue
			}
			if command == "unexpand" {
				j.Args = j.Args[:1]
			}
			j.Lim.Buf = 100
			if r := run(t, j); string(r.Out) != want.String() {
				t.Errorf("%s %s: %s", command, list, firstDifference(string(r.Out), want.String()))
			}
		}
	}
}
