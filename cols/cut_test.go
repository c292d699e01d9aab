package cols_test

import (
	"strings"
	"testing"

	"toolchest/api"
)

// P9.2

func TestCutBytes(t *testing.T) {
	for _, c := range []struct{ in, list, out string }{
		{"abc\n", "1", "a\n"},
		{"abc\n", "2", "b\n"},
		{"abc\n", "3", "c\n"},
		{"abc\n", "4", "\n"},
		{"abc\n", "2147483647", "\n"},
		{"abc\n", "2147483647-", "\n"},
		{"abc\n", "-2147483647", "abc\n"},
		{"abc\n", "3-9", "c\n"},
		{"abcdefg\n", "2-4", "bcd\n"},
		{"abcdefg\n", "6-", "fg\n"},
		{"abcdefg\n", "-2", "ab\n"},
		{"abcdefg\n", "7,1", "ag\n"}, // in the line's order
		{"abcdefg\n", "3-,1", "acdefg\n"},
		{"abcdefg\n", "1,1,1", "a\n"}, // each byte once
		{"abcdefg\n", "2-6,3-4", "bcdef\n"},
		{"abcdefg\n", "3-4,2-6", "bcdef\n"},
		{"abcdefg\n", "2-4,4-5,5", "bcde\n"},
		{"abcdefg\n", "2-3,5-6", "bcef\n"},
		{"abcdefg\n", "5-6 2-3", "bcef\n"},
		{"abcdefg\n", "1-2\t3-4", "abcd\n"},
		{"abcdefg\n", "1,3,5,7,9", "aceg\n"},
		{"abcdefg\n", "2-,-1", "abcdefg\n"},
		{"", "1", ""},
		{"\n", "1", "\n"},
		{"\n\n", "1-", "\n\n"},
		{"a\n\nb\n", "1", "a\n\nb\n"},
		{"a\n\nb\n", "2", "\n\n\n"},
		{"abc", "2", "b\n"}, // no line feed at its end
		{"abc", "4", "\n"},
		{"ab\ncd", "2", "b\nd\n"},
		{"\x00\xff\xc3\xa4\r\n", "2-4", "\xff\xc3\xa4\n"},
		{"\xc3\xa4\n", "2", "\xa4\n"}, // letters are bytes
		{"a\tb\n", "2-", "\tb\n"},
	} {
		comesAnyhow(t, c.in, c.out, "cut", "-b", c.list)
		comesAnyhow(t, c.in, c.out, "cut", "-c", c.list)
		comesAnyhow(t, c.in, c.out, "cut", "-n", "-b"+c.list, "-")
		comesAnyhow(t, c.in, c.out, "cut", "-nb", c.list, "--")
	}
}

func TestCutFields(t *testing.T) {
	for _, c := range []struct{ in, list, out string }{
		{"a:b:c\n", "1", "a\n"},
		{"a:b:c\n", "2", "b\n"},
		{"a:b:c\n", "3", "c\n"},
		{"a:b:c\n", "4", "\n"},
		{"a:b:c\n", "2147483647-", "\n"},
		{"a:b:c\n", "-2147483647", "a:b:c\n"},
		{"a:b:c\n", "2-", "b:c\n"},
		{"a:b:c\n", "-2", "a:b\n"},
		{"a:b:c\n", "3,1", "a:c\n"},
		{"a:b:c\n", "1,1", "a\n"},
		{"a:b:c:d:e\n", "2-4,3", "b:c:d\n"},
		{"a:b:c:d:e\n", "5 1-2", "a:b:e\n"},
		{":a:\n", "1", "\n"}, // it begins and ends with it
		{":a:\n", "2", "a\n"},
		{":a:\n", "3", "\n"},
		{":a:\n", "1,3", ":\n"},
		{":a:\n", "1-", ":a:\n"},
		{":\n", "1", "\n"},
		{":\n", "1-2", ":\n"},
		{"::\n", "1-2", ":\n"},
		{"a::b\n", "2", "\n"},
		{"a::b\n", "2-3", ":b\n"},
		{"a:b", "2", "b\n"}, // no line feed at its end
		{"a:b\nc:d", "1", "a\nc\n"},
		{"one two:three\n", "1", "one two\n"},
		{"\xff:\x00:\xc3\n", "2-", "\x00:\xc3\n"},
		{"", "1", ""},
	} {
		comesAnyhow(t, c.in, c.out, "cut", "-d", ":", "-f", c.list)
		comesAnyhow(t, c.in, c.out, "cut", "-f"+c.list, "-sd:", "-")
		comesAnyhow(t, strings.ReplaceAll(c.in, ":", "\t"), strings.ReplaceAll(c.out, ":", "\t"), "cut", "-f", c.list)
		comesAnyhow(t, strings.ReplaceAll(c.in, ":", "\t"), strings.ReplaceAll(c.out, ":", "\t"), "cut", "-s", "-f", c.list)
	}
}

// A line without the byte is told whole, or with -s not at all.
func TestCutLinesWithoutFields(t *testing.T) {
	for _, c := range []struct{ in, list, whole, strict string }{
		{"ab\n", "2", "ab\n", ""},
		{"ab\n", "1", "ab\n", ""},
		{"ab", "7", "ab\n", ""},
		{"\n", "1", "\n", ""},
		{"\n\n", "2", "\n\n", ""},
		{"x\na:b\n\nc:d\ny", "2", "x\nb\n\nd\ny\n", "b\nd\n"},
		{"a:b\nx", "9", "\nx\n", "\n"},
		{"", "1", "", ""},
	} {
		comesAnyhow(t, c.in, c.whole, "cut", "-d:", "-f", c.list)
		comesAnyhow(t, c.in, c.strict, "cut", "-d:", "-s", "-f", c.list)
		comesAnyhow(t, c.in, c.strict, "cut", "-ssf", c.list, "-d:")
	}
	comesAnyhow(t, "a:b\n", "a:b\n", "cut", "-f", "2") // the byte is a tab
	comesAnyhow(t, "a:b\n", "", "cut", "-sf", "2")
}

// The byte between fields may be any one.
func TestCutDelimiters(t *testing.T) {
	for c := range 256 {
		d := string([]byte{byte(c)})
		j := jobOf("aa"+d+"bb"+d+"cc\n", "cut", "-d", d, "-f", "2-")
		want := "bb" + d + "cc\n"
		switch d {
		case "\n": // no line has one
			want = "aa\nbb\ncc\n"
		case "a":
			want = "aabb" + d + "cc\n"
		case "b":
			want = "bbbcc\n"
		case "c":
			want = "bbccc\n"
		}
		comes(t, j, want, "", 0)
	}
	comesAnyhow(t, "a-b\n", "b\n", "cut", "-d-", "-f2")
	comesAnyhow(t, "a-b\n", "b\n", "cut", "-d", "-", "-f2")
	comesAnyhow(t, "a b\n", "b\n", "cut", "-d", " ", "-f2")
	comesAnyhow(t, "a\\b\n", "b\n", "cut", "-d", "\\", "-f2")
}

func TestCutOptionsThatMayNotBe(t *testing.T) {
	for _, args := range []string{
		"cut", "cut f", "cut -", "cut --", "cut -n", "cut -s", "cut -d :", "cut -d : -s f", "cut -n -s",
		"cut -b 1 -c 1", "cut -b 1 -f 1", "cut -c 1 -f 1", "cut -b 1 -c 1 -f 1", "cut -f 1 -b 1", "cut -c1 -b1 -c1",
		"cut -n -c 1", "cut -c 1 -n", "cut -n -f 1", "cut -f 1 -n", "cut -b 1 -d :", "cut -c 1 -d :", "cut -d: -b 1", "cut -s -b 1", "cut -s -c 1", "cut -c 1 -s", "cut -nb 1 -s", "cut -b 1 -n -d :",
		"cut -d :: -f 1", "cut -d: -d:: -f 1", "cut -dab -f1", "cut -f 1 -d \u00e4",
		"cut -b", "cut -c", "cut -f", "cut -d", "cut -f 1 -d", "cut -b 1 -c",
		"cut -x", "cut -b 1 -x", "cut -b 1 -u", "cut -1", "cut -F 1", "cut -b1 -N", "cut --b 1", "cut -b 1 -\xff",
		"cut -b 1 -b 0", "cut -f 1 -f x", "cut -c 1 -c 2-1 f",
		"cut -b -- f", "cut -b - f",
	} {
		refuses(t, strings.Fields(args)...)
	}
	refuses(t, "cut", "-d", "", "-f", "1")
	refuses(t, "cut", "-d", ":", "-d", "", "-f", "1")
	refuses(t, "cut", "-f", "1", "-d", "\t\t")
	for _, list := range wrongLists() {
		for _, letter := range []string{"-b", "-c", "-f"} {
			refuses(t, "cut", letter, list)
			refuses(t, "cut", letter, "1", letter, list, "f")
		}
	}
}

// Of several of one letter the last one counts, also where an earlier one may not be.
func TestCutOptionsThatStandTwice(t *testing.T) {
	comesAnyhow(t, "abc\n", "b\n", "cut", "-c", "1", "-c", "2")
	comesAnyhow(t, "abc\n", "b\n", "cut", "-b", "1", "-n", "-b", "2", "-n")
	comesAnyhow(t, "abc\n", "b\n", "cut", "-c", "0", "-c", "x", "-c", "", "-c", "2")
	comesAnyhow(t, "a:b,c\n", "c\n", "cut", "-d:", "-d", ",", "-f1", "-f", "2")
	comesAnyhow(t, "a:b\n", "b\n", "cut", "-d", "", "-d", "::", "-d", ":", "-f2")
}

func TestCutOptionsAndOperands(t *testing.T) {
	comesAnyhow(t, "q", "o\nt\n", "cut", "-b1", "f")
	comesAnyhow(t, "q", "o\nt\n", "cut", "-b", "1", "--", "f")
	comesAnyhow(t, "q", "2\n4\n5\n\n", "cut", "-d:", "-f2", "h")
	comesAnyhow(t, "q", "2\n5\n", "cut", "-sd:", "-f2", "h")
	comesAnyhow(t, "q", "2\n5\n", "cut", "-sf", "2", "-d", ":", "--", "h")
	comes(t, job("q", "cut -b 1 f -c 1"), "o\nt\n", "cut: -c: no such file\ncut: 1: no such file\n", 1)
	comes(t, job("q", "cut -b 1 -- -c"), "", "cut: -c: no such file\n", 1)
}

func TestCutInputs(t *testing.T) {
	const told = "ab\ncd\n"
	for _, c := range []struct {
		in, args, out, errs string
		status              int
	}{
		{told, "cut -b 2", "b\nd\n", "", 0},
		{told, "cut -b 2 -", "b\nd\n", "", 0},
		{told, "cut -b 2 f", "n\nw\n", "", 0},
		{told, "cut -b 2 e", "", "", 0},
		{told, "cut -b 2 f - d/g", "n\nw\nb\nd\ng\n", "", 0},
		{told, "cut -b 2 f f e f", "n\nw\nn\nw\nn\nw\n", "", 0},
		{told, "cut -b 2 - -", "b\nd\n", "", 0},
		{told, "cut -b 2 x", "", "cut: x: no such file\n", 1},
		{told, "cut -b 2 x -", "b\nd\n", "cut: x: no such file\n", 1},
		{told, "cut -b 2 - x f", "b\nd\nn\nw\n", "cut: x: no such file\n", 1},
		{told, "cut -b 2 d", "", "cut: d: is a directory\n", 1},
		{told, "cut -b 2 d f d", "n\nw\n", "cut: d: is a directory\ncut: d: is a directory\n", 1},
		{told, "cut -b 2 f/x f", "n\nw\n", "cut: f/x: not a directory\n", 1},
		{told, "cut -b 2 ./-", "", "cut: ./-: no such file\n", 1},
		{told, "cut -b 2 k", "b\n", "cut: k: line too long\n", 1},
		{told, "cut -b 2 l", "", "cut: l: line too long\n", 1},
		{told, "cut -b 2 l k - f", "b\nb\nd\nn\nw\n", "cut: l: line too long\ncut: k: line too long\n", 1},
		{told, "cut -sf 1 f x -", "", "cut: x: no such file\n", 1},
	} {
		for buf := 1; buf < 12; buf++ {
			j := job(c.in, c.args)
			j.Lim.Buf = buf
			comes(t, j, c.out, c.errs, c.status)
			j.Faults = faults(strings.Repeat("i1", 40))
			comes(t, j, c.out, c.errs, c.status)
		}
	}
	comes(t, jobOf("q", "cut", "-b1", ""), "", "cut: no such file\n", 1) // an operand without bytes
}

// A line of just Line bytes, and ones that are longer.
func TestCutLongLines(t *testing.T) {
	for _, c := range []struct {
		in, out, errs string
		status        int
	}{
		{"1234567\n", "17\n", "", 0},
		{"12345678\n", "178\n", "", 0},
		{"12345678", "178\n", "", 0},
		{"123456789\n", "", "cut: -: line too long\n", 1},
		{"123456789", "", "cut: -: line too long\n", 1},
		{"a\n12345678\n123456789\nb\n", "a\n178\n", "cut: -: line too long\n", 1},
		{"\n" + strings.Repeat("x", 100) + "\n", "\n", "cut: -: line too long\n", 1},
	} {
		for buf := 1; buf < 20; buf++ {
			j := job(c.in, "cut -c 1,7-")
			j.Lim.Buf = buf
			comes(t, j, c.out, c.errs, c.status)
		}
	}
}

// What is held is what the reader holds: a line, and what was read ahead.
func TestCutHolds(t *testing.T) {
	in := strings.Repeat("12345678\n", 20)
	for buf := 1; buf < 40; buf++ {
		j := job(in, "cut -b 2-")
		j.Lim.Buf = buf
		comes(t, j, strings.Repeat("2345678\n", 20), "", 0)
	}
	j := job("12345678\n1", "cut -d 4 -f 1-")
	j.Lim.Buf = 10
	if r := comes(t, j, "12345678\n1\n", "", 0); r.Peak != 10 {
		t.Errorf("%d bytes were held", r.Peak)
	}
}

// More inputs than there are descriptors: each is closed behind its turn.
func TestCutManyInputs(t *testing.T) {
	comes(t, job("q", "cut -b 1"+strings.Repeat(" f d", 20)), strings.Repeat("o\nt\n", 20), strings.Repeat("cut: d: is a directory\n", 20), 1)
}

// Buf is 4: each Read has a sign, and each Write.
func TestCutFailures(t *testing.T) {
	for _, c := range []struct {
		in, args, signs, out, errs string
		status                     int
	}{
		{"ab\ncd\nef", "cut -b 1", "e", "", "cut: -: input/output error\n", 1},
		{"ab\ncd\nef", "cut -b 1", "..e", "a\n", "cut: -: input/output error\n", 1},      // in the midst of the second line
		{"ab\ncd\nef", "cut -b 1", "....e", "a\nc\n", "cut: -: input/output error\n", 1}, // the third one is not known to be whole
		{"abc\ndef\n", "cut -b 1", "..e", "a\n", "cut: -: input/output error\n", 1},      // between two lines
		{"ab\ncd\n", "cut -b 1 - f", "e", "o\nt\n", "cut: -: input/output error\n", 1},   // the next input is read
		{"ab\ncd\n", "cut -b 1 f -", "e", "a\nc\n", "cut: f: input/output error\n", 1},
		{"ab\ncd\n", "cut -b 1 - -", "e", "", "cut: -: input/output error\n", 1}, // it is not read again
		{"ab\ncd\n", "cut -b 1", ".e", "", "cut: standard output: input/output error\n", 1},
		{"ab\ncd\n", "cut -b 1", ".s", "", "cut: standard output: no space left\n", 1},
		{"ab\ncd\n", "cut -b 1 - f x", ".p", "", "cut: standard output: broken pipe\n", 1},
		{"ab\ncd\n", "cut -b 1 - f", ".1s", "a", "cut: standard output: no space left\n", 1},
		{"ab\ncd\n", "cut -b 1", "s.s", "a\nc\n", "", 0},   // a Read does not mind it
		{"ab\ncd\n", "cut -b 1 x f", "s", "o\nt\n", "", 1}, // nothing is done about what can't be said
		{"ab\ncd\n", "cut -b 1", "ee", "", "", 1},
		{"ab\ncd\n", "cut -b 1", ".se", "", "", 1},
		{"ab\ncd\n", "cut", "p", "", "", 1},
		{"ab\ncd\n", "cut", "5p", "", "cut: ", 1},
	} {
		comes(t, faulty(c.in, c.args, c.signs), c.out, c.errs, c.status)
	}
}

func TestCutDescriptors(t *testing.T) {
	r := newRig(t, job("ab\n", "cut -b 1"))
	r.put(0)
	r.ends("", "cut: -: bad descriptor\n", 1)
	r = newRig(t, job("ab\n", "cut -b 1"))
	r.put(r.out)
	r.ends("", "cut: -: invalid\n", 1)
	r = newRig(t, job("ab\ncd\n", "cut -b 1"))
	r.put(r.in, 0)
	r.ends("", "cut: standard output: bad descriptor\n", 1)
	r = newRig(t, job("ab\n", "cut -b 1 x -"))
	r.put(r.in, r.out, 0)
	r.ends("a\n", "", 1)
	r = newRig(t, job("ab\n", "cut"))
	r.put(r.in, r.out, 0)
	r.ends("", "", 1)
}

// A file as great as one may be, and one that is told to and becomes too great.
func TestCutOfAFileToAFile(t *testing.T) {
	j := job("", "cut -b 1-")
	j.In = []byte(strings.Repeat("1234567\n", 2000))
	r := newRig(t, j)
	fd, _ := r.p.Table().Open("", "/new", api.OpenWrite)
	r.p.Table().Dup(fd, 1)
	r.ends("", "cut: standard output: no space left\n", 1)
	n, _ := r.k.Tree().Find("", "/new")
	if b := r.k.Tree().Read(n, 0, 10000); string(b) != string(j.In[:api.MaxData]) {
		t.Errorf("%d bytes were told", len(b))
	}
}
