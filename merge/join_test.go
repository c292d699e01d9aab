package merge_test

import (
	"strings"
	"testing"
)

// P14.3

// joins fails, if something else comes of joining lines by options that blanks part.
func joins(t *testing.T, x, y, options, out string) {
	t.Helper()
	joinsBy(t, x, y, strings.Fields(options), out)
}

func joinsBy(t *testing.T, x, y string, options []string, out string) {
	t.Helper()
	anyhow(t, two(x, y, append([]string{"join"}, options...)...), out)
}

// Without options: groups of one line and of several in either input, and lines that have no partner.
func TestJoin(t *testing.T) {
	for _, c := range []struct{ x, y, out string }{
		{"", "", ""},
		{"a 1\n", "", ""},
		{"", "a 1\n", ""},
		{"a 1\n", "a 2\n", "a 1 2\n"},
		{"a 1", "a 2", "a 1 2\n"},
		{"a\n", "a\n", "a\n"},
		{"a 1 2\n", "a\n", "a 1 2\n"},
		{"a\n", "a 1 2\n", "a 1 2\n"},
		{"a 1 2\n", "a 3 4\n", "a 1 2 3 4\n"},
		{"a 1\nb 2\n", "b 3\nc 4\n", "b 2 3\n"},
		{"a 1\n", "b 2\n", ""},
		{"b 1\n", "a 2\n", ""},
		// Groups.
		{"a 1\na 2\n", "a 3\n", "a 1 3\na 2 3\n"},
		{"a 1\n", "a 2\na 3\n", "a 1 2\na 1 3\n"},
		{"a 1\na 2\na 3\n", "a 4\na 5\n", "a 1 4\na 1 5\na 2 4\na 2 5\na 3 4\na 3 5\n"},
		{"a 1\na 1\n", "a 2\na 2\n", "a 1 2\na 1 2\na 1 2\na 1 2\n"},
		{"a 1\na 2\nb 3\nc 4\nc 5\n", "a 6\nb 7\nb 8\nc 9\n", "a 1 6\na 2 6\nb 3 7\nb 3 8\nc 4 9\nc 5 9\n"},
		// Unpaired ones at the beginning, in the middle, at the end.
		{"a 1\nb 2\nc 3\nd 4\n", "b 5\nd 6\n", "b 2 5\nd 4 6\n"},
		{"b 5\nd 6\n", "a 1\nb 2\nc 3\nd 4\ne 7\n", "b 5 2\nd 6 4\n"},
		// Keys are the same, or not, by bytes.
		{"a\nab\nabc\n", "ab 1\n", "ab 1\n"},
		{"A 1\na 2\n", "a 3\n", "a 2 3\n"},
		{"10 a\n9 b\n", "10 c\n9 d\n", "10 a c\n9 b d\n"},
		{"9 b\n", "10 c\n9 d\n", "9 b d\n"},
		{"z 1\n\x80 2\n\xff 3\n", "\x7f 0\n\x80 4\n\xff 5\n", "\x80 2 4\n\xff 3 5\n"},
		{"01 a\n", "1 b\n", ""},
		// Inputs that are not in order: by what comes next alone.
		{"b 1\na 2\n", "a 3\nb 4\n", "b 1 4\n"},
		{"b 1\na 2\n", "b 3\na 4\n", "b 1 3\na 2 4\n"},
		{"a 1\nb 2\na 3\n", "a 4\nb 5\na 6\n", "a 1 4\nb 2 5\na 3 6\n"},
		// Blanks ahead of, between and behind fields.
		{"  a  1\n", "\ta\t 2 \n", "a 1 2\n"},
		{"a\t1\t2\n", "a 3\n", "a 1 2 3\n"},
		{"a\v1\n", "a 2\n", ""},
		// No bytes are a key, too.
		{"\n", "\n", "\n"},
		{" \n", "\t\n", "\n"},
		{"\n\na 1\n", "\na 2\n", "\n\na 1 2\n"},
		{"\n", "a\n", ""},
	} {
		joins(t, c.x, c.y, "", c.out)
	}
}

// -a and -v.
func TestJoinUnpaired(t *testing.T) {
	const x, y = "a 1\nc 2\nc 3\ne 4\ng 5\n", "b 6\nc 7\nd 8\ne 9\nf 0\n"
	const paired = "c 2 7\nc 3 7\ne 4 9\n"
	for _, c := range []struct{ options, out string }{
		{"", paired},
		{"-a 1", "a 1\n" + paired + "g 5\n"},
		{"-a1", "a 1\n" + paired + "g 5\n"},
		{"-a 2", "b 6\nc 2 7\nc 3 7\nd 8\ne 4 9\nf 0\n"},
		{"-a 1 -a 2", "a 1\nb 6\nc 2 7\nc 3 7\nd 8\ne 4 9\nf 0\ng 5\n"},
		{"-a 2 -a 1", "a 1\nb 6\nc 2 7\nc 3 7\nd 8\ne 4 9\nf 0\ng 5\n"},
		{"-a 1 -a 1", "a 1\n" + paired + "g 5\n"},
		{"-v 1", "a 1\ng 5\n"},
		{"-v1", "a 1\ng 5\n"},
		{"-v 2", "b 6\nd 8\nf 0\n"},
		{"-v 1 -v 2", "a 1\nb 6\nd 8\nf 0\ng 5\n"},
		{"-v 2 -v 1", "a 1\nb 6\nd 8\nf 0\ng 5\n"},
		{"-v 1 -a 1", "a 1\ng 5\n"},
		{"-v 1 -a 2", "a 1\nb 6\nd 8\nf 0\ng 5\n"},
		{"-a 1 -v 2", "a 1\nb 6\nd 8\nf 0\ng 5\n"},
		{"-a 1 -v 1 -a 2", "a 1\nb 6\nd 8\nf 0\ng 5\n"},
	} {
		joins(t, x, y, c.options, c.out)
	}
	for _, c := range []struct{ x, y, options, out string }{
		{"", "", "-a 1 -a 2", ""},
		{"a 1\nb 2", "", "-a 1", "a 1\nb 2\n"},
		{"a 1\nb 2", "", "-a 2", ""},
		{"", "a 1\nb 2", "-a 2", "a 1\nb 2\n"},
		{"", "a 1\nb 2", "-a 1", ""},
		{"a 1\na 2\n", "b 3\nb 4\n", "-a 1 -a 2", "a 1\na 2\nb 3\nb 4\n"}, // each line for itself
		{"a 1\na 2\n", "b 3\nb 4\n", "-v 1 -v 2", "a 1\na 2\nb 3\nb 4\n"},
		{"a 1\na 2\n", "a 3\na 4\n", "-v 1 -v 2", ""},
		{"a 1\n", "a 3\n", "-v 1", ""},
		{"\n", "a\n", "-a 1 -a 2", "\na\n"},
		{"  \n\ta  b \n", "", "-a 1", "\na b\n"},
		{"b 1\na 2\n", "a 3\nb 4\n", "-a 1 -a 2", "a 3\nb 1 4\na 2\n"},
		{"a 1\nb 2\na 3\n", "a 4\n", "-a 1", "a 1 4\nb 2\na 3\n"},
		{"\xff 1\n", "a 2\n", "-a1 -a2", "a 2\n\xff 1\n"},
	} {
		joins(t, c.x, c.y, c.options, c.out)
	}
}

// -1 and -2.
func TestJoinKeys(t *testing.T) {
	for _, c := range []struct{ x, y, options, out string }{
		{"1 a\n2 b\n", "a 3\nb 4\n", "-1 2", "a 1 3\nb 2 4\n"},
		{"a 3\nb 4\n", "1 a\n2 b\n", "-2 2", "a 3 1\nb 4 2\n"},
		{"1 a p\n2 b q\n", "3 x a\n4 y b\n", "-1 2 -2 3", "a 1 p 3 x\nb 2 q 4 y\n"},
		{"1 a p\n2 b q\n", "3 x a\n4 y b\n", "-2 3 -1 2", "a 1 p 3 x\nb 2 q 4 y\n"},
		{"a 1\n", "a 2\n", "-1 1 -2 1", "a 1 2\n"},
		{"a 1\n", "a 2\n", "-1 01 -2 001", "a 1 2\n"},
		{"a a\n", "a a\n", "-1 2 -2 2", "a a a\n"},
		// A line that has no such field: no bytes are its key.
		{"a 1\n", "b 2\n", "-1 3 -2 3", " a 1 b 2\n"},
		{"a 1\nb 2\n", "c 3\nd 4\n", "-1 2147483647 -2 2147483647", " a 1 c 3\n a 1 d 4\n b 2 c 3\n b 2 d 4\n"},
		{"a 1\nb\n", "1 c\n", "-1 2", "1 a c\n"},
		{"b\na 1\n", "1 c\n", "-1 2 -a 1", " b\n1 a c\n"},
		{"b\na 1\n", "1 c\n", "-1 2 -v 1", " b\n"},
		{"a 1\n", "\n", "-1 3", " a 1\n"},
		{"a 1\n", "\nx\n", "-1 2147483647", " a 1\n"},
		{"x\n", "a 1\nb\n", "-2 3 -a 1 -a 2", " a 1\n b\nx\n"},
		// Of several the last one.
		{"1 a\n", "a 3\n", "-1 1 -1 2", "a 1 3\n"},
		{"a 3\n", "1 a\n", "-2 9 -2 x -2 2", "a 3 1\n"},
	} {
		joins(t, c.x, c.y, c.options, c.out)
	}
}

// -t: what stands ahead of, between and behind its bytes are fields, also without bytes.
func TestJoinDelimiters(t *testing.T) {
	for _, c := range []struct{ x, y, options, out string }{
		{"a:1\n", "a:2\n", "-t :", "a:1:2\n"},
		{"a:1\n", "a:2\n", "-t:", "a:1:2\n"},
		{"a 1\n", "a 2\n", "-t :", ""},
		{"a 1\n", "a 1\n", "-t :", "a 1\n"},
		{"a::1\n", "a:2:\n", "-t :", "a::1:2:\n"},
		{"a:\n", "a:\n", "-t :", "a::\n"},
		{":a\n", ":b\n", "-t :", ":a:b\n"},
		{":\n", "\n", "-t :", ":\n"},
		{"\n", "\n", "-t :", "\n"}, // one field without bytes
		{"\n", ":\n", "-t :", ":\n"},
		{"::\n", "::\n", "-t :", "::::\n"},
		{" a : b\n", " a : c\n", "-t :", " a : b: c\n"},
		{"1:a\n2:b\n", "b:3\n", "-t : -1 2", "b:2:3\n"},
		{"a:b\n", "", "-t : -a 1", "a:b\n"},
		{":b\n", "", "-t : -a 1", ":b\n"},
		{"a:b\n", "", "-t : -a 1 -1 2", "b:a\n"},
		{"a:b\n", "", "-t : -a 1 -1 3", ":a:b\n"},
		{"a::c\n", "", "-t : -a 1 -1 2", ":a:c\n"},
		{"", "a:b:\n", "-t : -a 2 -2 3", ":a:b\n"},
		{"xaya\n", "xaz\n", "-t a", "xayaaz\n"},
		{"a\xff1\n", "a\xff2\n", "-t \xff", "a\xff1\xff2\n"},
		{"a\x001\n", "a\x002\n", "-t \x00", "a\x001\x002\n"},
		{"a:1\n", "a:2\n", "-t x -t :", "a:1:2\n"}, // of several the last one
		{"a:1\n", "a:2\n", "-t xy -t :", "a:1:2\n"},
		{"a-1\n", "a-2\n", "-t -", "a-1-2\n"},
	} {
		joins(t, c.x, c.y, c.options, c.out)
	}
	for _, c := range []struct{ x, y, delimiter, out string }{
		{"a  1\n", "a 2\n", " ", "a  1 2\n"},
		{" a\n", " b\n", " ", " a b\n"},
		{"a\t1 2\n", "a\t3\n", "\t", "a\t1 2\t3\n"},
		{"a 1\n", "a 1\n", "\n", "a 1\n"}, // no line has it
	} {
		joinsBy(t, c.x, c.y, []string{"-t", c.delimiter}, c.out)
	}
	joinsBy(t, "a 1\n", "b 1\n", []string{"-t", "\n", "-o", "1.1,2.1,0", "-1", "2", "-2", "2"}, "a 1\nb 1\n\n")
}

// -o and -e.
func TestJoinLists(t *testing.T) {
	const x, y = "a 1 2\nb 3\n", "a 4\nc 5 6\n"
	const all = "-a1 -a2 "
	for _, c := range []struct{ options, out string }{
		{"-o 0", "a\n"},
		{"-o 1.1", "a\n"},
		{"-o 2.2", "4\n"},
		{"-o 1.2,2.2,0", "1 4 a\n"},
		{"-o0,0,0", "a a a\n"},
		{"-o 1.3,1.3,1.2", "2 2 1\n"},
		{"-o 2.1,1.1", "a a\n"},
		{"-o 1.01", "a\n"},
		{"-o 1.4", "\n"}, // no such field
		{"-o 1.4,0", " a\n"},
		{"-o 1.2147483647,2.2147483647", " \n"},
		{"-o 1.4 -e -", "-\n"},
		{"-o 1.4,0,2.3 -e none", "none a none\n"},
		{"-e none -o 1.4,0,2.3", "none a none\n"},
		{"-o 0 -e none", "a\n"},
		{"-o 1.4 -e x -e y", "y\n"}, // of several the last one
		{"-o 1.2 -o 2.2", "4\n"},
		{"-o 3.3 -o 0", "a\n"},
		// Unpaired: of the other input there is nothing, but there is the key.
		{all + "-o 0,1.2,2.2", "a 1 4\nb 3 \nc  5\n"},
		{all + "-o 0,1.2,2.2 -e -", "a 1 4\nb 3 -\nc - 5\n"},
		{all + "-o 1.1,2.1", "a a\nb \n c\n"},
		{all + "-o 1.1,2.1 -e -", "a a\nb -\n- c\n"},
		{"-v 1 -o 0,1.1,2.1 -e -", "b b -\n"},
		{"-v 2 -o 0,1.1,2.1 -e -", "c - c\n"},
		{"-v 2 -o 2.3,2.2", "6 5\n"},
		{"-v 1 -a 2 -o 0", "b\nc\n"},
		// Without -o it is of no use.
		{"-e -", "a 1 2 4\n"},
		{all + "-e -", "a 1 2 4\nb 3\nc 5 6\n"},
		{"-e - -1 9 -a 1", " a 1 2\n b 3\n"},
	} {
		joins(t, x, y, c.options, c.out)
	}
	// Parts with commas, blanks and tabs between them.
	for _, list := range []string{"0,1.2,2.2", "0 1.2 2.2", "0\t1.2\t2.2", "0,1.2 2.2", "0\t1.2,2.2"} {
		joinsBy(t, x, y, []string{"-o", list}, "a 1 4\n")
		joinsBy(t, x, y, []string{"-o" + list}, "a 1 4\n")
	}
	joinsBy(t, x, y, []string{"-o", "1.9,0", "-e", ""}, " a\n")
	joinsBy(t, x, y, []string{"-o", "1.9,0", "-e", "x", "-e", ""}, " a\n")
	joinsBy(t, x, y, []string{"-o", "1.9", "-e", "b c\nd"}, "b c\nd\n")
	joinsBy(t, x, y, []string{"-o", "1.9", "-e", "\xff\x00"}, "\xff\x00\n")
}

// A field that is there, and has no bytes, is as one that is not; so is a key.
func TestJoinFieldsWithoutBytes(t *testing.T) {
	for _, c := range []struct{ x, y, options, out string }{
		{"a::1\n", "a:\n", "-t : -o 0,1.2,1.3,2.2 -e -", "a:-:1:-\n"},
		{"a::1\n", "a:\n", "-t : -o 0,1.2,1.3,2.2", "a::1:\n"},
		{"a::1\n", "a:\n", "-t : -e -", "a::1:\n"},
		{":1\n", ":2\n", "-t : -o 0,1.2,2.2 -e -", "-:1:2\n"},
		{":1\n", ":2\n", "-t : -o 1.1,2.1 -e -", "-:-\n"},
		{":1\n", ":2\n", "-t : -e -", ":1:2\n"},
		{"a 1\n", "b 2\n", "-1 3 -2 3 -o 0,1.1,2.1 -e -", "- a b\n"},
		{"\n", "b 2\n", "-a 1 -o 0,1.1,2.1 -e -", "- - -\n"},
		{"\n", "b 2\n", "-v 1 -o 0", "\n"},
		{"\n", "b 2\n", "-v 1 -o 0,0", " \n"},
	} {
		joins(t, c.x, c.y, c.options, c.out)
	}
}

// A key is told once, from whichever place, and all other fields in order.
func TestJoinWholeLines(t *testing.T) {
	x, y := "1 2 3 4\n", "a b c d\n"
	for _, c := range []struct{ one, two, out string }{
		{"1", "1", "2 3 4 b c d\n"},
		{"2", "3", "1 3 4 a b d\n"},
		{"4", "4", "1 2 3 a b c\n"},
		{"3", "2", "1 2 4 a c d\n"},
	} {
		key := func(line, place string) string {
			l := strings.Fields(line)
			l[place[0]-'1'] = "k"
			return strings.Join(l, " ") + "\n"
		}
		joins(t, key(x, c.one), key(y, c.two), "-1 "+c.one+" -2 "+c.two, "k "+c.out)
	}
	// A line of a group is told as often as it is paired, each time the same.
	joins(t, "1 k 2\n3 k 4\n", "5 6 k\n7 8 k\n", "-1 2 -2 3", "k 1 2 5 6\nk 1 2 7 8\nk 3 4 5 6\nk 3 4 7 8\n")
}

func TestJoinUsage(t *testing.T) {
	for _, args := range []string{
		"join", "join f", "join f h e", "join -", "join -a 1 f", "join - f h", "join x y z", "join -- f", "join f -1 2 h",
		"join -x f h", "join -i f h", "join -j 1 f h", "join -3 1 f h", "join --header f h", "join -a1x f h",
		"join -a 0 f h", "join -a 3 f h", "join -a x f h", "join -a 01 f h", "join -a 12 f h", "join -a -1 f h", "join -a 1 -a 3 f h", "join -a 3 -a 1 f h", "join -a f h",
		"join -v 0 f h", "join -v 3 f h", "join -v x f h", "join -v 02 f h", "join -v 1 -v 3 f h", "join -v 3 -v 1 f h", "join -a 1 -v 3 f h", "join -v 1 -a 3 f h",
		"join -t ab f h", "join -tab f h", "join -t : -t ab f h", `join -t \t f h`, "join -t \u00e4 f h",
		"join -1 0 f h", "join -1 -1 f h", "join -1 x f h", "join -1 2147483648 f h", "join -1 99999999999999999999999 f h", "join -1 1x f h", "join -1 1 -1 0 f h", "join -1 +1 f h",
		"join -2 0 f h", "join -2 -1 f h", "join -2 x f h", "join -2 2147483648 f h", "join -2 99999999999999999999999 f h", "join -2 1 -2 0 f h", "join -1 1 -2 0 f h", "join -1 0 -2 1 f h",
		"join -o x f h", "join -o 1 f h", "join -o 1. f h", "join -o .1 f h", "join -o 1.0 f h", "join -o 1.x f h", "join -o 0.1 f h", "join -o 3.1 f h", "join -o 00 f h", "join -o 01.1 f h", "join -o 1.2147483648 f h", "join -o 2.99999999999999999999999 f h", "join -o 1.1.1 f h", "join -o 1.-1 f h", "join -o -1.1 f h", "join -o 1:1 f h",
		"join -o 0, f h", "join -o ,0 f h", "join -o 0,,0 f h", "join -o 0,x f h", "join -o 0;0 f h", "join -o auto f h", "join -o 0 -o x f h", "join -o 00,0 f h",
		"join -a", "join -v", "join -e", "join -o", "join -t", "join -1", "join -2", "join -a 1 f h -x", "join -e x -o",
	} {
		refuses(t, strings.Fields(args)...)
	}
	for _, args := range [][]string{
		{"-a", ""}, {"-v", ""}, {"-t", ""}, {"-1", ""}, {"-2", ""}, {"-o", ""}, {"-t:", "-t", ""}, {"-o", "0", "-o", ""}, {"-1", " 1"}, {"-a", "1 "}, {"-a1", "-a", ""},
		{"-o", " "}, {"-o", ","}, {"-o", "\t"}, {"-o", " 0"}, {"-o", "0 "}, {"-o", "0, 0"}, {"-o", "0\t\t0"}, {"-o", "0 ,0"}, {"-o", "0\n0"}, {"-o", "1. 1"}, {"-o", "1 .1"}, {"-o", "1.1\x00"},
	} {
		refuses(t, append(append([]string{"join"}, args...), "f", "h")...)
	}
	comes(t, job("q", "join d/g -a"), "", "join: -a: no such file\n", 2) // an operand
}

func TestJoinInputs(t *testing.T) {
	const paired = "a 1 x\na 2 x\nd 4 z\nd 4 w\n"
	anyhow(t, job("q", "join f h"), paired)
	anyhow(t, job("a 1\na 2\nb 3\nd 4", "join - h"), paired)
	anyhow(t, job("a x\nc y\nd z\nd w\n", "join f -"), paired)
	anyhow(t, job("q", "join -a 1 f e"), "a 1\na 2\nb 3\nd 4\n")
	anyhow(t, job("q", "join -a 2 e f"), "a 1\na 2\nb 3\nd 4\n")
	for buf := 1; buf < 15; buf++ {
		for _, c := range []struct{ args, out, errs string }{
			{"join x h", "", "join: x: no such file\n"},
			{"join h x", "", "join: x: no such file\n"},
			{"join -a 1 -a 2 x d/g", "gg\n", "join: x: no such file\n"},
			{"join -a 1 d/g x", "gg\n", "join: x: no such file\n"},
			{"join x y", "", "join: x: no such file\njoin: y: no such file\n"},
			{"join -a 2 d h", "a x\nc y\nd z\nd w\n", "join: d: is a directory\n"},
			{"join f d", "", "join: d: is a directory\n"},
			{"join -v1 f/x e", "", "join: f/x: not a directory\n"},
			{"join k h", "a x\n", "join: k: line too long\n"},
			{"join h k", "a x\n", "join: k: line too long\n"},
			{"join l h", "", "join: l: line too long\n"},
			{"join -a 1 k e", "a\n", "join: k: line too long\n"},
			{"join k k", "a\n", "join: k: line too long\njoin: k: line too long\n"},
			// What is left is read, also where it is not told.
			{"join k e", "", "join: k: line too long\n"},
			{"join e k", "", "join: k: line too long\n"},
			{"join -v 1 e k", "", "join: k: line too long\n"},
		} {
			j := job("q", c.args)
			j.Lim.Buf = buf
			comes(t, j, c.out, c.errs, 2)
			j.Faults = faults(strings.Repeat("2i1", 20))
			comes(t, j, c.out, c.errs, 2)
		}
	}
	comes(t, jobOf("q", "join", "-a2", "", "d/g"), "gg\n", "join: no such file\n", 2)
}

// A line of Line bytes, and a longer one, in either input, also within a group: it has ended there.
func TestJoinLongLines(t *testing.T) {
	for buf := 1; buf < 30; buf++ {
		for _, c := range []struct{ x, y, options, out, errs string }{
			{"a 345678\n", "a 345678", "", "a 345678 345678\n", ""},
			{"a 345678\na 1\n", "a 345678", "", "a 345678 345678\na 1 345678\n", ""},
			{"a 1\na 3456789\na 2\n", "a 3\na 4\n", "", "a 1 3\na 1 4\n", "join: x: line too long\n"},
			{"a 1\na 2\n", "a 3\na 3456789\na 4\n", "", "a 1 3\na 2 3\n", "join: y: line too long\n"},
			{"a 1\na 3456789\n", "a 3\na 3456789\n", "", "a 1 3\n", "join: x: line too long\njoin: y: line too long\n"},
			{"a 1\na 3456789\n", "a 3\nb 4\n", "-a 2", "a 1 3\nb 4\n", "join: x: line too long\n"},
			{"a 1\nb 3456789\nc 2\n", "a 3\nc 4\n", "-a 2", "a 1 3\nc 4\n", "join: x: line too long\n"},
			{"a 1\na 3456789\n", "a 3\nb 4\n", "-v 2", "b 4\n", "join: x: line too long\n"},
		} {
			j := two(c.x, c.y, append([]string{"join"}, strings.Fields(c.options)...)...)
			j.Lim = lim(buf, 8)
			status := 0
			if c.errs != "" {
				status = 2
			}
			comes(t, j, c.out, c.errs, status)
		}
	}
}

// Buf is 4: each Read has a sign, and each Write.
func TestJoinFailures(t *testing.T) {
	const in = "a\nb\nc\n"
	for _, c := range []struct {
		args, signs, out, errs string
		status                 int
	}{
		{"join -a 1 - e", "e", "", "join: -: input/output error\n", 2},
		{"join -a 1 - e", "..s", "", "join: standard output: no space left\n", 2},
		{"join -a 1 - e", "..e", "", "join: standard output: input/output error\n", 2},
		{"join -a 1 - e", "..1p", "a", "join: standard output: broken pipe\n", 2},
		{"join -a 1 - e", "....e", "a\nb\n", "join: -: input/output error\n", 2},
		{"join - e", "..e", "", "join: -: input/output error\n", 2},
		{"join -a 2 d/g -", ".e", "", "join: -: input/output error\n", 2},
		{"join -a 2 d/g -", "e", "a\nb\nc\n", "join: d/g: input/output error\n", 2},
		{"join -- - e", "e", "", "join: -: input/output error\n", 2},
		{"join -a 1 - e", "ee", "", "", 2}, // what can't be said
		{"join -a 1 - e", "..ss", "", "", 2},
		{"join -a 1 - e", "ss", "a\nb\nc\n", "", 0}, // a Read does not mind it
		{"join -a 1 - x", "..s", "", "join: x: no such file\njoin: standard output: no space left\n", 2},
		{"join -x", "e", "", "", 2},
	} {
		comes(t, faulty(in, c.args, c.signs), c.out, c.errs, c.status)
	}
	// Of a group that can't be read to its end what was read is paired.
	j := two("a 1\na 2\na 3\n", "a 4\na 5\na 6\n", "join")
	for _, c := range []struct{ signs, out, errs string }{
		{"..e", "a 1 4\na 1 5\na 1 6\n", "join: x: input/output error\n"},
		{"...e", "a 1 4\na 1 5\na 1 6\na 2 4\na 2 5\na 2 6\n", "join: x: input/output error\n"},
		{".....e", "a 1 4\na 2 4\na 3 4\n", "join: y: input/output error\n"},
		{"......e", "a 1 4\na 1 5\na 2 4\na 2 5\na 3 4\na 3 5\n", "join: y: input/output error\n"},
		{"........e", "", "join: standard output: input/output error\n"},
		{".........2s", "a 1 4\na ", "join: standard output: no space left\n"},
		{"...........p", "a 1 4\na 1 5\na 1 6\n", "join: standard output: broken pipe\n"},
	} {
		j.Faults = faults(c.signs)
		comes(t, j, c.out, c.errs, 2)
	}
}

func TestJoinDescriptors(t *testing.T) {
	r := newRig(t, job("a\n", "join -a 2 - d/g"))
	r.put(r.out)
	r.ends("gg\n", "join: -: invalid\n", 2)
	r = newRig(t, job("a\n", "join x -"))
	r.put(0)
	r.ends("", "join: x: no such file\njoin: -: bad descriptor\n", 2)
	r = newRig(t, job("a\n", "join -a 1 - x"))
	r.put(r.in, 0)
	r.ends("", "join: x: no such file\njoin: standard output: bad descriptor\n", 2)
	r = newRig(t, job("a\n", "join -a 1 - x"))
	r.put(r.in, r.out, 0)
	r.ends("a\n", "", 2)
}

// What is held: both groups, as long as they are paired, and what the readers do. Groups that are not told are not held.
func TestJoinHolds(t *testing.T) {
	many := strings.Repeat("a 345678\n", 50)
	for buf := 1; buf < 20; buf++ {
		for _, c := range []struct {
			x, y, options, out string
			most               int
		}{
			{many, "", "-a 1", many, 2 * (8 + buf)},
			{"", many, "-a 2", many, 2 * (8 + buf)},
			{many, many, "-v 1", "", 2*(8+buf) + 1},
			{many, "a 1\n", "-v 2", "", 2*(8+buf) + 1},
			{strings.Repeat("a 345678\nb 345678\n", 25), strings.Repeat("a 345678\nb 345678\n", 25), "", strings.Repeat("a 345678 345678\nb 345678 345678\n", 25), 2*(8+buf) + 1 + 2*8},
			{many, "a 1\n", "", strings.Repeat("a 345678 1\n", 50), 2*(8+buf) + 1 + 50*8 + 3},
			{"a 1\n", many, "", strings.Repeat("a 1 345678\n", 50), 2*(8+buf) + 1 + 50*8 + 3},
		} {
			j := two(c.x, c.y, append([]string{"join"}, strings.Fields(c.options)...)...)
			j.Lim = lim(buf, 8)
			if r := comes(t, j, c.out, "", 0); r.Peak > c.most {
				t.Errorf("%q, Buf %d: %d bytes were held, more than %d", j.Args, buf, r.Peak, c.most)
			}
		}
	}
}
