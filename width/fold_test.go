package width_test

import (
	"strings"
	"testing"
)

// P11.2

func TestFold(t *testing.T) {
	for _, c := range []struct{ in, n, out string }{
		{"abcde", "3", "abc\nde"},
		{"", "3", ""},
		{"\n", "3", "\n"},
		{"\n\n", "1", "\n\n"},
		{"ab\n", "3", "ab\n"},
		{"abc\n", "3", "abc\n"},
		{"abc", "3", "abc"},
		{"abcd\n", "3", "abc\nd\n"},
		{"abcd", "3", "abc\nd"},
		{"abcdef\n", "3", "abc\ndef\n"},
		{"abcdefg", "3", "abc\ndef\ng"},
		{"ab\ncdef\n\ng", "3", "ab\ncde\nf\n\ng"},
		{"abc\n", "1", "a\nb\nc\n"},
		{"abc", "007", "abc"},
		{"abc\n", "2147483647", "abc\n"},
		{"a b c", "3", "a b\n c"}, // blanks are as others
		{"a\tb", "9", "a\tb"},     // tabs
		{"a\tb", "8", "a\t\nb"},
		{"a\tb", "7", "a\n\t\nb"},
		{"\t\tx", "17", "\t\tx"},
		{"\t\tx", "16", "\t\t\nx"},
		{"\t\tx", "15", "\t\n\tx"},
		{"1234567\tx", "9", "1234567\tx"},
		{"12345678\tx", "10", "12345678\n\tx"}, // a segment begins at 0
		{"123456789\tx", "9", "123456789\n\tx"},
		{"\t\t", "1", "\t\n\t"}, // wider alone
		{"\t\ta", "7", "\t\n\t\na"},
		{"a\t", "1", "a\n\t"},
		{"abc\bd", "3", "abc\bd"}, // backspaces
		{"abc\bde", "3", "abc\bd\ne"},
		{"abc\b\b\bdef", "3", "abc\b\b\bdef"},
		{"\b\babc", "3", "\b\babc"},
		{"\b\babcd", "3", "\b\babc\nd"},
		{"abcd\b\b\befg", "3", "abc\nd\b\b\befg"},
		{"abcd\b\b\befgh", "3", "abc\nd\b\b\befg\nh"},
		{"a\b\t\bb", "8", "a\b\t\bb"},
		{"\t\bx", "7", "\t\b\nx"}, // no wider with it
		{"\t\bx", "6", "\t\n\bx"},
		{"abc\rdef", "3", "abc\rdef"}, // carriage returns
		{"abc\rdefg", "3", "abc\rdef\ng"},
		{"abcd\refg", "3", "abc\nd\refg"},
		{"\r\r\rabc\r\n", "3", "\r\r\rabc\r\n"},
		{"ab\r\t", "8", "ab\r\t"},
		{"\t\rab", "2", "\t\rab"},
		{"\t\rabc", "2", "\t\rab\nc"},
		{"\x00\xff\v\f\x7f", "2", "\x00\xff\n\v\f\n\x7f"},
		{"\u00e4\u00e4", "3", "\xc3\xa4\xc3\n\xa4"}, // bytes
	} {
		comesAnyhow(t, c.in, c.out, "fold", "-w", c.n)
		comesAnyhow(t, c.in, c.out, "fold", "-w"+c.n, "-")
	}
}

func TestFoldBytes(t *testing.T) {
	for _, c := range []struct{ in, n, out string }{
		{"abcde", "3", "abc\nde"},
		{"a\tb\bc\rd", "3", "a\tb\n\bc\r\nd"},
		{"\t\t\t\t", "3", "\t\t\t\n\t"},
		{"\b\b\b\b\n", "3", "\b\b\b\n\b\n"},
		{"\r\r\r\r\n", "3", "\r\r\r\n\r\n"},
		{"\t\ta", "1", "\t\n\t\na"},
		{"a b c", "3", "a b\n c"},
		{"a\tb\n", "2147483647", "a\tb\n"},
		{"", "1", ""},
	} {
		comesAnyhow(t, c.in, c.out, "fold", "-b", "-w", c.n)
		comesAnyhow(t, c.in, c.out, "fold", "-bbw", c.n, "--", "-")
	}
}

func TestFoldAtBlanks(t *testing.T) {
	for _, c := range []struct{ in, n, out string }{
		{"a bcd", "4", "a \nbcd"},
		{"a bcd", "5", "a bcd"},
		{"ab cd ef", "4", "ab \ncd \nef"},
		{"ab cd ef", "5", "ab \ncd ef"},
		{"ab cd ef", "6", "ab cd \nef"},
		{"abcdefg", "3", "abc\ndef\ng"}, // none
		{"abcdefg hi", "3", "abc\ndef\ng \nhi"},
		{"abc def", "4", "abc \ndef"}, // at the segment's end
		{"abc def", "3", "abc\n \ndef"},
		{"abc def", "5", "abc \ndef"},
		{"a b c d", "4", "a b \nc d"}, // several
		{"a b cde", "5", "a b \ncde"},
		{"a  bc", "3", "a  \nbc"},
		{"    x", "3", "   \n x"},
		{"     ", "2", "  \n  \n "},
		{"a bc", "1", "a\n \nb\nc"},
		{" abcd", "3", " \nabc\nd"},
		{"a b\nc d\n", "2", "a \nb\nc \nd\n"},
		{"a\tbcdefgh", "10", "a\t\nbcdefgh"}, // a tab is a blank
		{"a b\tcdefg", "10", "a b\t\ncdefg"},
		{"a\tb cdefg", "10", "a\tb \ncdefg"},
		{"ab\tc", "4", "ab\n\t\nc"}, // and wide
		{"a b\tc", "4", "a \nb\n\t\nc"},
		{"\tab", "8", "\t\nab"},
		{"\tab", "9", "\t\nab"},
		{"\tab", "3", "\t\nab"},
		{" \babcde", "4", " \n\babcd\ne"}, // what is left is as wide as before
		{"ab cd\refghij", "5", "ab \ncd\refghi\nj"},
		{"ab \b\b\bcdefg", "4", "ab \n\b\b\bcdef\ng"},
		{"\t\rab", "2", "\t\rab"},
		{"\t\rabc", "2", "\t\n\rab\nc"},
		{"a\vb\fc", "2", "a\v\nb\f\nc"}, // no other byte is a blank
		{"a\u00a0bc", "4", "a\u00a0b\nc"},
		{"", "4", ""},
		{"\n", "4", "\n"},
	} {
		comesAnyhow(t, c.in, c.out, "fold", "-s", "-w", c.n)
		comesAnyhow(t, c.in, c.out, "fold", "-ssw", c.n)
	}
	for _, c := range []struct{ in, n, out string }{
		{"a\tbc d", "3", "a\t\nbc \nd"},
		{"a bcd", "4", "a \nbcd"},
		{"a\b\b bcd", "5", "a\b\b \nbcd"},
		{"a\rb\tcd", "4", "a\rb\t\ncd"},
		{"\t\ta", "1", "\t\n\t\na"},
		{"abcd", "2", "ab\ncd"},
	} {
		comesAnyhow(t, c.in, c.out, "fold", "-b", "-s", "-w", c.n)
		comesAnyhow(t, c.in, c.out, "fold", "-sbw"+c.n)
	}
}

// 80, if nothing is said.
func TestFoldUsualWidth(t *testing.T) {
	x := strings.Repeat("x", 80)
	comesAnyhow(t, x+"\n", x+"\n", "fold")
	comesAnyhow(t, x+"y\n", x+"\ny\n", "fold", "-")
	comesAnyhow(t, x+x, x+"\n"+x, "fold", "-b", "--")
	comesAnyhow(t, x[5:]+" "+x[4:], x[5:]+" \n"+x[4:], "fold", "-s")
	comesAnyhow(t, strings.Repeat("\t", 11), strings.Repeat("\t", 10)+"\n\t", "fold")
	comesAnyhow(t, strings.Repeat("\t", 81), strings.Repeat("\t", 80)+"\n\t", "fold", "-b")
}

func TestFoldOptions(t *testing.T) {
	for _, args := range []string{
		"fold -w", "fold -b -w", "fold -w 0", "fold -w 00", "fold -w 2147483648", "fold -w 18446744073709551617", "fold -w -1", "fold -w +1", "fold -w x", "fold -w 3x", "fold -w 1.5", "fold -w 0x3", "fold -w 3,4",
		"fold -w 3 -w 0", "fold -w 3 -w x f", "fold -w- f", "fold -w -- f",
		"fold -x", "fold -3", "fold -bx", "fold -B", "fold --b", "fold -b -t 3", "fold -\xff", "fold -a",
	} {
		refuses(t, strings.Fields(args)...)
	}
	refuses(t, "fold", "-w", "")
	refuses(t, "fold", "-w", "3", "-w", "")
	refuses(t, "fold", "-w", " 3")
	refuses(t, "fold", "-w", "3\n")
	// Of several of one letter the last one counts, also where an earlier one may not be.
	comesAnyhow(t, "abcd", "abc\nd", "fold", "-w", "2", "-w", "3")
	comesAnyhow(t, "abcd", "abc\nd", "fold", "-w", "0", "-w", "x", "-w", "", "-w3")
	comesAnyhow(t, "a\tcd", "a\tc\nd", "fold", "-w", "2", "-b", "-w3", "-b")
	comes(t, job("q", "fold -w 2 f -b"), "on\ne\ntw\no", "fold: -b: no such file\n", 1)
	comes(t, job("q", "fold -w 2 -- -b"), "", "fold: -b: no such file\n", 1)
}

// Every line of up to six of these bytes.
func TestFoldOfEveryShortLine(t *testing.T) {
	lines := everyText(6, "a", " ", "\t", "\b", "\r")
	for _, options := range []string{"", "-b", "-s", "-bs"} {
		for _, n := range []int{1, 2, 3, 4, 7, 8, 9, 15, 16, 17} {
			var want strings.Builder
			for _, line := range lines {
				want.WriteString(foldOf(line, n, strings.Contains(options, "b"), strings.Contains(options, "s")) + "\n")
			}
			j := job(strings.Join(lines, "\n")+"\n", "fold "+options+" -w "+digits(n))
			j.Lim.Buf = 100
			if r := run(t, j); string(r.Out) != want.String() {
				t.Errorf("%s -w %d: %s", options, n, firstDifference(string(r.Out), want.String()))
			}
		}
	}
}
