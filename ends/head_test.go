package ends_test

import (
	"strings"
	"testing"

	"toolchest/api"
)

// P8.1

func TestHead(t *testing.T) {
	const ten = "1\n2\n3\n4\n5\n6\n7\n8\n9\n10\n"
	for _, c := range []struct{ in, args, out string }{
		{"", "head", ""},
		{"a", "head", "a"},
		{"\n", "head", "\n"},
		{"a\nb", "head", "a\nb"},
		{twelve, "head", ten},
		{twelve[:len(ten)], "head", ten},
		{twelve[:len(ten)-1], "head", ten[:len(ten)-1]}, // the tenth line has no line feed
		{twelve, "head -", ten},
		{"q", "head t", ten},
		{"q", "head e", ""},
		{"q", "head f", "one\ntwo"},
		{"a\nb\nc\n", "head -n 1", "a\n"},
		{"a\nb\nc\n", "head -n 2", "a\nb\n"},
		{"a\nb\nc\n", "head -n 3", "a\nb\nc\n"},
		{"a\nb\nc\n", "head -n 4", "a\nb\nc\n"},
		{"a\nb\nc", "head -n 3", "a\nb\nc"},
		{"a\nb\nc", "head -n 2", "a\nb\n"},
		{"a\nb\nc", "head -n 2147483647", "a\nb\nc"},
		{"\n\n\nx", "head -n 2", "\n\n"},
		{"", "head -n 1", ""},
		{"abcdefghijklm\nno", "head -n 1", "abcdefghijklm\n"},
		{"\x00\xff\r\n\x80\n", "head -n 1", "\x00\xff\r\n"},
	} {
		comesAnyhow(t, c.in, c.args, c.out)
	}
}

func TestHeadOptions(t *testing.T) {
	for _, args := range []string{
		"head -n 2", "head -n2", "head -n 02", "head -n 0000000000000000000002", "head -n 2 -", "head -n2 --", "head -n 2 -- -",
		"head -n 1 -n 2", "head -n1 -n2", "head -n 2147483648 -n 2", "head -n 0 -n x -n 2", // of several the last one counts
	} {
		comes(t, job("a\nb\nc\n", args), "a\nb\n", "", 0)
	}
	j := job("q\nr\n", "head -n 1 -- -n")
	j.Nodes = []api.Node{file("/-n", "N\n2\n"), file("/-", "no\n")}
	comes(t, j, "N\n", "", 0)
	j.Args = []string{"head", "-n", "1", "-", "-n", "./-"}
	comes(t, j, "==> - <==\nq\n\n==> -n <==\nN\n\n==> ./- <==\nno\n", "", 0)
}

// F4: nothing else is done.
func TestHeadUsage(t *testing.T) {
	for _, number := range []string{"0", "00", "2147483648", "99999999999999999999", "18446744073709551617", "x", "", "1x", "x1", " 1", "1 ", "+1", "-1", "-", "+", "1.0", "0x1", "--", "f"} {
		refuses(t, "head", "-n", number)
		refuses(t, "head", "-n", number, "f")
		refuses(t, "head", "-n", "1", "-n", number)
		if number != "" {
			refuses(t, "head", "-n"+number, "f", "t")
		}
	}
	for _, args := range []string{"head -n", "head -n 1 -n", "head -x", "head -1", "head -c 1", "head -xn 1", "head -n 1 -c", "head --n", "head -N 1", "head -: f"} {
		refuses(t, strings.Fields(args)...)
	}
}

// Every byte that is no letter of the synopsis.
func TestOptionsThatAreNone(t *testing.T) {
	for name, letters := range map[string]string{"head": "n-", "tail": "nc-"} {
		for x := range 256 {
			letter := string([]byte{byte(x)})
			if !strings.Contains(letters, letter) {
				refuses(t, name, "-"+letter)
				refuses(t, name, "-"+letter+"n", "1", "f")
				refuses(t, name, "-n", "1", "-"+letter, "f")
			}
		}
	}
}

func TestHeadTitles(t *testing.T) {
	for _, c := range []struct{ args, out string }{
		{"head f", "one\ntwo"},
		{"head -- f", "one\ntwo"},
		{"head f e", "==> f <==\none\ntwo\n==> e <==\n"},
		{"head e f", "==> e <==\n\n==> f <==\none\ntwo"},
		{"head e e", "==> e <==\n\n==> e <==\n"},
		{"head f f", "==> f <==\none\ntwo\n==> f <==\none\ntwo"},
		{"head -n 1 f - d/g", "==> f <==\none\n\n==> - <==\nq\n\n==> d/g <==\ngg\n"},
		{"head - f", "==> - <==\nq\nr\n\n==> f <==\none\ntwo"},
		{"head -n 1 ./d/../d//g /f", "==> ./d/../d//g <==\ngg\n\n==> /f <==\none\n"},
		{"head -n 2 t f t e", "==> t <==\n1\n2\n\n==> f <==\none\ntwo\n==> t <==\n1\n2\n\n==> e <==\n"},
	} {
		comesAnyhow(t, "q\nr\n", c.args, c.out)
	}
}

// Where the descriptor 0 is an input twice, how transfers are cut changes nothing.
func TestHeadOfOneInputTwice(t *testing.T) {
	comesAnyhow(t, "q\nr\n", "head -n 1 - -", "==> - <==\nq\n\n==> - <==\n")
}

// F1: an input that can't be opened or read has no title; the first one that can has no line feed ahead of its own.
func TestHeadInputsThatFail(t *testing.T) {
	const noX, noY, isDir = "head: x: no such file\n", "head: y: no such file\n", "head: d: is a directory\n"
	for _, c := range []struct{ args, out, errs string }{
		{"head x", "", noX},
		{"head d", "", isDir},
		{"head x y", "", noX + noY},
		{"head d x", "", isDir + noX},
		{"head x f", "==> f <==\none\ntwo", noX},
		{"head d f", "==> f <==\none\ntwo", isDir},
		{"head f x", "==> f <==\none\ntwo", noX},
		{"head -n 1 f x t", "==> f <==\none\n\n==> t <==\n1\n", noX},
		{"head -n 1 f d t", "==> f <==\none\n\n==> t <==\n1\n", isDir},
		{"head -n 1 x d - y f/z t d", "==> - <==\nq\n\n==> t <==\n1\n", noX + isDir + noY + "head: f/z: not a directory\n" + isDir},
		{"head e x e", "==> e <==\n\n==> e <==\n", noX},
	} {
		comes(t, job("q\nr\n", c.args), c.out, c.errs, 1)
	}
	j := job("q", "head")
	j.Args = append(j.Args, "", "d/g", "a\x00")
	comes(t, j, "==> d/g <==\ngg\n", "head: no such file\nhead: a\x00: bad name\n", 1)
}

// F1: ahead of its first byte nothing is told of an input, behind that what was read.
func TestHeadReadsThatFail(t *testing.T) {
	const stdin, f = "head: -: input/output error\n", "head: f: input/output error\n"
	for _, c := range []struct{ signs, args, out, errs string }{
		{"e", "head", "", stdin},
		{"iie", "head", "", stdin},
		{"..e", "head", "abcd", stdin},
		{"2.e", "head", "ab", stdin},
		{"1.1.ie", "head", "ab", stdin},
		{"......e", "head", "abcdef\ngh", stdin}, // at the end, all was told
		{"e", "head f d/g", "==> d/g <==\ngg\n", f},
		{"e", "head - d/g e", "==> d/g <==\ngg\n\n==> e <==\n", stdin},
		{"...e", "head f d/g", "==> f <==\none\n\n==> d/g <==\ngg\n", f},
		{"1..e", "head f d/g", "==> f <==\no\n==> d/g <==\ngg\n", f},
		{"..e", "head e f d/g", "==> e <==\n\n==> d/g <==\ngg\n", f},
		{"e.e", "head e f d/g", "==> d/g <==\ngg\n", "head: e: input/output error\n" + f},
	} {
		comes(t, faulty("abcdef\ngh", c.args, c.signs), c.out, c.errs, 1)
	}
}

// Nothing is read behind the last line that is told.
func TestHeadReadsNoFurther(t *testing.T) {
	for _, c := range []struct {
		in, args, signs string
		used            int
	}{
		{"a\nb\nc\nd\n", "head -n 2", "..ee", 2},
		{"a\nb\nc\nd\n", "head -n 1", "..ee", 2},
		{"a\nb\nc\nd\n", "head -n 2", "1.1.1.1.ee", 8},
		{"a\nb\n", "head -n 2", "..ee", 2},
	} {
		out := strings.Join(strings.SplitAfter(c.in, "\n")[:c.args[len(c.args)-1]-'0'], "")
		if r := comes(t, faulty(c.in, c.args, c.signs), out, "", 0); r.Used != c.used {
			t.Errorf("%s, %s: %d faults were used, not %d", c.args, c.signs, r.Used, c.used)
		}
	}
	r := newRig(t, job("a\nb\nc\nd\n", "head -n 1"))
	keeps := r.p.Table().Fork()
	r.ends("a\n", "", 0)
	if b, _ := keeps.Read(0, 9); string(b) != "c\nd\n" {
		t.Errorf("left is %q", b)
	}
}

// F2: said is one line, and nothing more is read.
func TestHeadOutputThatFails(t *testing.T) {
	for _, c := range []struct {
		signs, args, out, errs string
		used                   int
	}{
		{".e...", "head", "", "head: standard output: input/output error\n", 3},
		{".s...", "head", "", "head: standard output: no space left\n", 3},
		{".2ip...", "head", "ab", "head: standard output: broken pipe\n", 5},
		{".5s...", "head - f x", "==> -", "head: standard output: no space left\n", 4},
		{"..s...", "head - f x", "==> - <==\n", "head: standard output: no space left\n", 4},
		{"...s...", "head e f x", "==> e <==\n", "head: standard output: no space left\n", 5},
		{".....p...", "head x f -", "==> f <==\none\n", "head: x: no such file\nhead: standard output: broken pipe\n", 7}, // the line about x is a transfer, too
	} {
		r := comes(t, faulty("abcdef\ngh", c.args, c.signs), c.out, c.errs, 1)
		if r.Used != c.used {
			t.Errorf("%s, %s: %d faults were used, not %d", c.args, c.signs, r.Used, c.used)
		}
	}
}

// F3
func TestHeadErrorsThatCantBeSaid(t *testing.T) {
	comes(t, faulty("q", "head x y - z", "e4s"), "==> - <==\nq", "headhead: z: no such file\n", 1)
	comes(t, faulty("q", "head -x", "p"), "", "", 1)
	comes(t, faulty("q", "head", ".ee"), "", "", 1)
	r := newRig(t, job("q", "head x"))
	r.put(r.in, r.out, 0)
	r.ends("", "", 1)
}

// Each input is closed behind its turn, also one that fails, or is not read to its end: else there were too many.
func TestHeadClosesInputs(t *testing.T) {
	want := strings.Repeat("\n==> t <==\n1\n", 20)[1:]
	comes(t, job("", "head -n 1"+strings.Repeat(" t d", 20)), want, strings.Repeat("head: d: is a directory\n", 20), 1)
}

// Held are as many bytes as a buffer has, if there are so many, and no more, whatever the input's size, also where inputs are not read to their end.
func TestHeadHolds(t *testing.T) {
	in := strings.Repeat("abc d\n", 40)
	for _, args := range []string{"head", "head -n 1", "head -n 40", "head -n 1 - t t f t", "head -n 1 t - t"} {
		for _, buf := range []int{1, 2, 5, 6, 239, 240, 241, 1000, 1 << 40} {
			j := job(in, args)
			j.Lim = lim(buf, 1)
			if r := run(t, j); r.Peak != min(buf, len(in)) {
				t.Errorf("%s, Buf %d: %d bytes were held", args, buf, r.Peak)
			}
		}
	}
}

// Lines may be of any length: Line is none of head's business.
func TestHeadLongLines(t *testing.T) {
	in := strings.Repeat("abc", 40) + "\n" + strings.Repeat("de", 30) + "\n"
	j := job(in, "head -n 1")
	j.Lim = lim(4, 1)
	comes(t, j, in[:121], "", 0)
}

// Descriptors that have something else, or nothing.
func TestHeadDescriptors(t *testing.T) {
	r := newRig(t, job("q", "head"))
	r.put(0)
	r.ends("", "head: -: bad descriptor\n", 1)
	r = newRig(t, job("q", "head e - e"))
	r.put(r.out)
	r.ends("==> e <==\n\n==> e <==\n", "head: -: invalid\n", 1)
	r = newRig(t, job("q", "head f x"))
	r.put(r.in, r.in)
	r.ends("", "head: standard output: invalid\n", 1)
}
