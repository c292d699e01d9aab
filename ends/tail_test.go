package ends_test

import (
	"strings"
	"testing"

	"toolchest/api"
)

// P8.2

func TestTailOfLines(t *testing.T) {
	const ten = "3\n4\n5\n6\n7\n8\n9\n10\n11\n12\n"
	for _, c := range []struct{ in, args, out string }{
		{"", "tail", ""},
		{"a", "tail", "a"},
		{"\n", "tail", "\n"},
		{twelve, "tail", ten},
		{twelve, "tail -", ten},
		{ten, "tail", ten},
		{twelve + "x", "tail", ten[2:] + "x"}, // a line without a line feed is one
		{"q", "tail t", ten},
		{"q", "tail e", ""},
		{"q", "tail f", "one\ntwo"},
		{"a\nb\nc\n", "tail -n 1", "c\n"},
		{"a\nb\nc\n", "tail -n -1", "c\n"},
		{"a\nb\nc\n", "tail -n 2", "b\nc\n"},
		{"a\nb\nc\n", "tail -n 3", "a\nb\nc\n"},
		{"a\nb\nc\n", "tail -n 4", "a\nb\nc\n"},
		{"a\nb\nc\n", "tail -n -4", "a\nb\nc\n"},
		{"a\nb\nc", "tail -n 1", "c"},
		{"a\nb\nc", "tail -n 2", "b\nc"},
		{"a\nb\nc", "tail -n 2147483647", "a\nb\nc"},
		{"a\nb\nc", "tail -n -2147483647", "a\nb\nc"},
		{"\n\nx\n\n", "tail -n 2", "x\n\n"},
		{"\n\n\n", "tail -n 2", "\n\n"},
		{"a\nbbbbb\nc\ndddd\ne", "tail -n 3", "c\ndddd\ne"},
		{"", "tail -n 1", ""},
		{"\x00\xff\n\x80\r\n", "tail -n 1", "\x80\r\n"},
		{"a\nb\n", "tail -n 0", ""},
		{"a\nb\n", "tail -n -0", ""},
		{"", "tail -n 0", ""},
	} {
		comesAnyhow(t, c.in, c.args, c.out)
	}
}

func TestTailFromALine(t *testing.T) {
	for _, c := range []struct{ in, args, out string }{
		{"a\nb\nc\n", "tail -n +0", "a\nb\nc\n"},
		{"a\nb\nc\n", "tail -n +1", "a\nb\nc\n"},
		{"a\nb\nc\n", "tail -n +2", "b\nc\n"},
		{"a\nb\nc\n", "tail -n +3", "c\n"},
		{"a\nb\nc\n", "tail -n +4", ""},
		{"a\nb\nc\n", "tail -n +5", ""},
		{"a\nb\nc", "tail -n +3", "c"},
		{"a\nb\nc", "tail -n +4", ""},
		{"a\nb\nc", "tail -n +2147483647", ""},
		{"\n\nx", "tail -n +2", "\nx"},
		{"", "tail -n +0", ""},
		{"", "tail -n +1", ""},
		{"", "tail -n +2", ""},
		{"q", "tail -n +11 t", "11\n12\n"},
		{"q", "tail -n +2 f", "two"},
	} {
		comesAnyhow(t, c.in, c.args, c.out)
	}
}

func TestTailOfBytes(t *testing.T) {
	for _, c := range []struct{ in, args, out string }{
		{"abc", "tail -c 0", ""},
		{"abc", "tail -c -0", ""},
		{"abc", "tail -c 1", "c"},
		{"abc", "tail -c -1", "c"},
		{"abc", "tail -c 2", "bc"},
		{"abc", "tail -c 3", "abc"},
		{"abc", "tail -c 4", "abc"},
		{"abc", "tail -c 2147483647", "abc"},
		{"abc", "tail -c -2147483647", "abc"},
		{"a\nb\n\n", "tail -c 3", "b\n\n"},
		{"abcdefghijklmnopq", "tail -c 5", "mnopq"},
		{"abcdefghijklmnopq", "tail -c 9", "ijklmnopq"},
		{"", "tail -c 0", ""},
		{"", "tail -c 1", ""},
		{"q", "tail -c 4 f", "\ntwo"},
		{"\x00\xff\x80", "tail -c 2", "\xff\x80"},
		{"abc", "tail -c +0", "abc"},
		{"abc", "tail -c +1", "abc"},
		{"abc", "tail -c +2", "bc"},
		{"abc", "tail -c +3", "c"},
		{"abc", "tail -c +4", ""},
		{"abc", "tail -c +5", ""},
		{"abc", "tail -c +2147483647", ""},
		{"abcdefghijklmnopq", "tail -c +7", "ghijklmnopq"},
		{"", "tail -c +0", ""},
		{"", "tail -c +1", ""},
		{"", "tail -c +2", ""},
		{"q", "tail -c +6 f", "wo"},
	} {
		comesAnyhow(t, c.in, c.args, c.out)
	}
}

func TestTailOptions(t *testing.T) {
	for _, args := range []string{
		"tail -n 2", "tail -n2", "tail -n-2", "tail -n -2", "tail -n -002", "tail -n +2", "tail -n+2", "tail -n +0000000000000000000002",
		"tail -n 2 -", "tail -n2 --", "tail -n 2 -- -",
		"tail -n 1 -n 2", "tail -n +3 -n 2", "tail -n 1 -n +2", "tail -n x -n 2", "tail -n 2147483648 -n -n -n 2", // of several the last one counts
		"tail -c 4", "tail -c4", "tail -c-4", "tail -c +3", "tail -c+3 -", "tail -c 1 -c 4", "tail -c -1 -c +3", "tail -c x -c 4 --",
	} {
		comes(t, job("a\nb\nc\n", args), "b\nc\n", "", 0)
	}
	j := job("q", "tail -n 1 -- -n")
	j.Nodes = []api.Node{file("/-n", "1\n2\n"), file("/-", "no\n"), file("/+2", "plus\n")}
	comes(t, j, "2\n", "", 0)
	j.Args = []string{"tail", "./-"}
	comes(t, j, "no\n", "", 0)
	j.Args = []string{"tail", "+2"}
	comes(t, j, "plus\n", "", 0)
}

// F4: nothing else is done.
func TestTailUsage(t *testing.T) {
	for _, number := range []string{"2147483648", "+2147483648", "-2147483648", "99999999999999999999", "+18446744073709551617", "x", "", "1x", " 1", "1 ", "+", "-", "+-1", "-+1", "++1", "--1", "+ 1", "1+", "1.0", "0x1", "--", "f"} {
		for _, letter := range []string{"-n", "-c"} {
			refuses(t, "tail", letter, number)
			refuses(t, "tail", letter, number, "f")
			refuses(t, "tail", letter, "1", letter, number)
			if number != "" {
				refuses(t, "tail", letter+number, "f")
			}
		}
	}
	for _, args := range []string{
		"tail -n", "tail -c", "tail -n 1 -c", "tail -x", "tail -1", "tail -f f", "tail -nc", "tail -cn 1", "tail --n", "tail -N 1", "tail -: f",
		"tail -n 1 -c 1", "tail -c 1 -n 1", "tail -n 1 -c 1 f", "tail -n +1 -c +1", "tail -n 0 -c 0", "tail -n 1 -c 1 -n 2",
		"tail f t", "tail f f", "tail - -", "tail x y", "tail -n 1 f t", "tail -c 1 f t", "tail -n 0 f t", "tail -- f t", "tail f t e", "tail f -n 1",
	} {
		refuses(t, strings.Fields(args)...)
	}
}

// F1
func TestTailInputsThatFail(t *testing.T) {
	for _, options := range []string{"", "-n 1", "-n +2", "-c 1", "-c 0", "-c +2"} {
		comes(t, job("q", "tail "+options+" x"), "", "tail: x: no such file\n", 1)
		comes(t, job("q", "tail "+options+" f/x"), "", "tail: f/x: not a directory\n", 1)
		comes(t, job("q", "tail "+options+" d"), "", "tail: d: is a directory\n", 1)
	}
	j := job("q", "tail")
	j.Args = append(j.Args, "")
	comes(t, j, "", "tail: no such file\n", 1)
}

// N 0 with -n reads nothing, so no fault befalls a Read of it. What it does not read is opened all the same.
func TestTailOfNoLines(t *testing.T) {
	for _, args := range []string{"tail -n 0", "tail -n -0 -", "tail -n 0 f", "tail -n0 d"} {
		if r := comes(t, faulty("q\n", args, "eee"), "", "", 0); r.Used != 0 || r.Peak != 0 {
			t.Errorf("%s: %d faults were used, %d bytes were held", args, r.Used, r.Peak)
		}
	}
	comes(t, job("q", "tail -n 0 x"), "", "tail: x: no such file\n", 1)
	r := newRig(t, job("q", "tail -n 0"))
	keeps := r.p.Table().Fork()
	r.ends("", "", 0)
	if b, _ := keeps.Read(0, 9); string(b) != "q" {
		t.Errorf("left is %q", b)
	}
}

// All others read their input to its end, those too that tell nothing of it.
func TestTailReadsAll(t *testing.T) {
	for _, args := range []string{"tail -c 0", "tail -n 1", "tail -c +9", "tail -n +9"} {
		r := newRig(t, job("ab\ncd\n", args))
		keeps := r.p.Table().Fork()
		r.result()
		if b, _ := keeps.Read(0, 9); len(b) > 0 {
			t.Errorf("%s: left is %q", args, b)
		}
		comes(t, faulty("", args, "e"), "", "tail: -: input/output error\n", 1)
	}
}

// F1: a line that is too long is said, and it is as if the input ended ahead of it.
func TestTailLongLines(t *testing.T) {
	const tooLong = "tail: -: line too long\n"
	for _, c := range []struct{ in, args, out, errs string }{
		{"abc\n", "tail -n 1", "abc\n", ""},
		{"abc", "tail -n 1", "abc", ""},
		{"abcd\n", "tail -n 1", "", tooLong},
		{"abcd", "tail -n 1", "", tooLong},
		{"abcd", "tail", "", tooLong},
		{"abcd", "tail -n -9", "", tooLong},
		{"abcdefghijklm", "tail -n 1", "", tooLong},
		{"a\nb\nabcd\nc\nd\n", "tail -n 1", "b\n", tooLong},
		{"a\nb\nabcd\nc\nd\n", "tail -n 9", "a\nb\n", tooLong},
		{"a\n\nabcd", "tail -n 2", "a\n\n", tooLong},
		{"abcd\nx\n", "tail -n 2147483647", "", tooLong},
		{"abcd", "tail -n 0", "", ""}, // what is not read is not too long
		{"abcd\nx\n", "tail -n +1", "abcd\nx\n", ""},
		{"abcd\nx\n", "tail -n +2", "x\n", ""},
		{"abcd\nx\nabcde", "tail -n +3", "abcde", ""},
		{"abcd\nx\n", "tail -c 6", "bcd\nx\n", ""},
		{"abcd\nx\n", "tail -c +3", "cd\nx\n", ""},
	} {
		status := 0
		if c.errs != "" {
			status = 1
		}
		for buf := 1; buf < 9; buf++ {
			j := job(c.in, c.args)
			j.Lim = lim(buf, 3)
			comes(t, j, c.out, c.errs, status)
			for _, signs := range []string{"i1i2i3i4", "1111111111111111"} {
				j.Faults = faults(signs)
				comes(t, j, c.out, c.errs, status)
			}
		}
	}
	j := job("", "tail f")
	j.Lim = lim(4, 2)
	comes(t, j, "", "tail: f: line too long\n", 1)
}

// F1: what was read counts. A line that can't be read to its end does not.
func TestTailReadsThatFail(t *testing.T) {
	const in = "a\nbc\ndef\ngh"
	for _, c := range []struct{ signs, args, out string }{
		{"e", "tail", ""},
		{"ie", "tail -n 1", ""},
		{".e", "tail -n 1", "a\n"},
		{"..e", "tail -n 1", "bc\n"},
		{"..e", "tail", "a\nbc\n"},
		{"...e", "tail -n 1", "def\n"},
		{"...e", "tail -n 2", "bc\ndef\n"},
		{"111e", "tail -n 2", "a\n"},
		{"11111e", "tail -n 1", "bc\n"},
		{"e", "tail -c 3", ""},
		{".e", "tail -c 3", "\nbc"},
		{"..e", "tail -c 3", "def"},
		{"...e", "tail -c 3", "\ngh"},
		{"..e", "tail -c 0", ""},
		{"e", "tail -n +1", ""},
		{"..e", "tail -n +2", "bc"},
		{"...e", "tail -n +3", "def"},
		{"..e", "tail -c +2", "\nbc"},
		{"...i.ie", "tail -c +3", "bc\ndef"},
		{"......e", "tail -c +3", "bc\ndef\ngh"},
	} {
		comes(t, faulty(in, c.args, c.signs), c.out, "tail: -: input/output error\n", 1)
	}
}

// F2: said is one line, and nothing more is read or told.
func TestTailOutputThatFails(t *testing.T) {
	for _, c := range []struct {
		signs, args, out, errs string
		used                   int
	}{
		{"....e..", "tail", "", "tail: standard output: input/output error\n", 6},
		{"....s..", "tail -n 2", "", "tail: standard output: no space left\n", 6},
		{".....p..", "tail -n 2", "def\n", "tail: standard output: broken pipe\n", 7},
		{"....2is..", "tail -n 2", "de", "tail: standard output: no space left\n", 8},
		{"....1ip..", "tail -c 3", "\n", "tail: standard output: broken pipe\n", 8},
		{".e..", "tail -n +2", "", "tail: standard output: input/output error\n", 3},
		{"...s..", "tail -n +2", "bc", "tail: standard output: no space left\n", 5},
		{".1p..", "tail -c +2", "\n", "tail: standard output: broken pipe\n", 4},
		{".e...s..", "tail -n 1", "a\n", "tail: -: input/output error\n", 4}, // nothing is read behind an error
		{".e.s..", "tail -n 1", "", "tail: -: input/output error\ntail: standard output: no space left\n", 5},
	} {
		r := comes(t, faulty("a\nbc\ndef\ngh", c.args, c.signs), c.out, c.errs, 1)
		if r.Used != c.used {
			t.Errorf("%s, %s: %d faults were used, not %d", c.args, c.signs, r.Used, c.used)
		}
	}
}

// F3
func TestTailErrorsThatCantBeSaid(t *testing.T) {
	comes(t, faulty("a\nb", "tail x", "e"), "", "", 1)
	comes(t, faulty("a\nb", "tail x", "3s"), "", "tai", 1)
	comes(t, faulty("a\nb", "tail -n x", "p"), "", "", 1)
	comes(t, faulty("a\nb", "tail -n 1", "2ee"), "a\n", "", 1)
	comes(t, faulty("a\nb", "tail -c 1", "..ss"), "", "", 1)
}

// Held are no more than N + 1 lines and a buffer, N bytes and a buffer, or a buffer, whatever the input's size; and what is kept is held.
func TestTailHolds(t *testing.T) {
	in := strings.Repeat("abc d\n", 400)
	for _, c := range []struct {
		args        string
		least, most int // beside a buffer
	}{
		{"tail", 60, 66}, {"tail -n 1", 6, 12}, {"tail -n 3", 18, 24}, {"tail -n -7", 42, 48}, {"tail -n 2147483647", 2400, 2406},
		{"tail -c 0", 0, 0}, {"tail -c 1", 1, 1}, {"tail -c 5", 5, 5}, {"tail -c -100", 100, 100}, {"tail -c 2147483647", 2400, 2400},
		{"tail -n +0", 0, 0}, {"tail -n +100", 0, 0}, {"tail -n +401", 0, 0}, {"tail -c +1", 0, 0}, {"tail -c +1000", 0, 0},
	} {
		for _, buf := range []int{1, 2, 5, 6, 7, 100, 2399, 2400} {
			j := job(in, c.args)
			j.Lim = lim(buf, 5)
			r := run(t, j)
			if r.Peak < c.least || r.Peak > c.most+buf {
				t.Errorf("%s, Buf %d: %d bytes were held", c.args, buf, r.Peak)
			}
			if c.most == c.least && c.most < 2400 && r.Peak != c.most+buf {
				t.Errorf("%s, Buf %d: %d bytes were held", c.args, buf, r.Peak)
			}
		}
	}
}

// Also a line that is longer than a buffer is held no more than the other lines let it.
func TestTailHoldsLongLines(t *testing.T) {
	for _, in := range []string{strings.Repeat("abcdefghijkl\n", 50), strings.Repeat("a\nabcdefghijkl\n", 50), strings.Repeat("abcdefghijkl", 50)} {
		for n, args := range []string{"tail -n 0", "tail -n 1", "tail -n 2", "tail -n 3"} {
			for buf := 1; buf < 30; buf++ {
				j := job(in, args)
				j.Lim = lim(buf, 12)
				if r := run(t, j); n > 0 && r.Peak > (n+1)*13+buf || n == 0 && r.Peak > 0 {
					t.Errorf("%s, In %q, Buf %d: %d bytes were held", args, in[:13], buf, r.Peak)
				}
			}
		}
	}
}

// Descriptors that have something else, or nothing.
func TestTailDescriptors(t *testing.T) {
	for _, args := range []string{"tail", "tail -n +1", "tail -c 1", "tail -c 0"} {
		r := newRig(t, job("q", args))
		r.put(0)
		r.ends("", "tail: -: bad descriptor\n", 1)
		r = newRig(t, job("q", args))
		r.put(r.out)
		r.ends("", "tail: -: invalid\n", 1)
	}
	r := newRig(t, job("q", "tail f"))
	r.put(r.in, r.in)
	r.ends("", "tail: standard output: invalid\n", 1)
	r = newRig(t, job("", "tail"))
	r.put(r.in, 0)
	r.ends("", "", 0) // nothing is to be told
}
