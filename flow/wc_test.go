package flow_test

import (
	"strconv"
	"strings"
	"testing"

	"toolchest/api"
)

// P7.3

func TestWc(t *testing.T) {
	for _, c := range []struct{ in, args, out string }{
		{"a b\n", "wc", "1 2 4\n"},
		{"", "wc", "0 0 0\n"},
		{"\n", "wc", "1 0 1\n"},
		{"a", "wc", "0 1 1\n"},
		{"ab cd", "wc", "0 2 5\n"},
		{"\n\n a  b\t\n", "wc", "3 2 9\n"},
		{"  ", "wc", "0 0 2\n"},
		{"abcdefghijklmno pq\nr\n", "wc", "2 3 21\n"},
		{"\x00 \x80\xff\n", "wc", "1 2 5\n"},
		{"a b\n", "wc -", "1 2 4 -\n"},
		{"", "wc -", "0 0 0 -\n"},
		{"", "wc f", "1 2 7 f\n"},
		{"", "wc e", "0 0 0 e\n"},
		{"", "wc ./d/../d//g", "1 1 3 ./d/../d//g\n"},
		{"a b\n", "wc f -", "1 2 7 f\n1 2 4 -\n2 4 11 total\n"},
		{"a b\n", "wc e -", "0 0 0 e\n1 2 4 -\n1 2 4 total\n"},
		{"", "wc f f d/g", "1 2 7 f\n1 2 7 f\n1 1 3 d/g\n3 5 17 total\n"},
		{"a b\n", "wc - f -", "1 2 4 -\n1 2 7 f\n0 0 0 -\n2 4 11 total\n"},
		{"", "wc - -", "0 0 0 -\n0 0 0 -\n0 0 0 total\n"},
	} {
		for buf := 1; buf < 12; buf++ {
			j := job(c.in, c.args)
			j.Lim = lim(buf)
			treeStays(t, j, comes(t, j, c.out, "", 0))
		}
	}
}

// Every group of letters, each in every order: whichever stand there, lines are ahead of words, and these ahead of bytes.
func TestWcLetters(t *testing.T) {
	for _, c := range []struct{ args, out string }{
		{"-l", "3"}, {"-w", "5"}, {"-c", "19"},
		{"-lw", "3 5"}, {"-wl", "3 5"}, {"-l -w", "3 5"}, {"-w -l", "3 5"},
		{"-lc", "3 19"}, {"-cl", "3 19"}, {"-c -l", "3 19"},
		{"-wc", "5 19"}, {"-cw", "5 19"}, {"-c -w", "5 19"},
		{"-clw", "3 5 19"}, {"-cwl", "3 5 19"}, {"-lcw", "3 5 19"}, {"-lwc", "3 5 19"}, {"-wcl", "3 5 19"}, {"-wlc", "3 5 19"},
		{"-w -cl", "3 5 19"}, {"-c -l -w", "3 5 19"}, {"", "3 5 19"},
		{"-ll", "3"}, {"-wwcw -c", "5 19"}, {"-l --", "3"}, {"--", "3 5 19"},
	} {
		const in = "aa b\n\tc \x0b dd\n eeee\n"
		comes(t, job(in, "wc "+c.args), c.out+"\n", "", 0)
		comes(t, job(in, "wc "+c.args+" -"), c.out+" -\n", "", 0)
		comes(t, job(in, "wc "+c.args+" - e"), c.out+" -\n"+zeros(c.out)+" e\n"+c.out+" total\n", "", 0)
	}
}

// zeros is a line of as many counts, each 0.
func zeros(counts string) string {
	return strings.TrimSpace(strings.Repeat("0 ", len(strings.Fields(counts))))
}

// Each byte parts words, or it is one of a word.
func TestWcBytesThatPartWords(t *testing.T) {
	for x := range 256 {
		words := 1
		switch x {
		case 9, 10, 11, 12, 13, 32:
			words = 2
		}
		in := "a" + string([]byte{byte(x)}) + "b"
		comes(t, job(in, "wc -w"), strconv.Itoa(words)+"\n", "", 0)
		comes(t, job(in[1:2], "wc -w"), strconv.Itoa(2-words)+"\n", "", 0)
		feeds := 0
		if x == 10 {
			feeds = 1
		}
		comes(t, job(in, "wc -lc"), strconv.Itoa(feeds)+" 3\n", "", 0)
	}
}

func TestWcOperandsThatLookLikeOptions(t *testing.T) {
	j := job("q", "wc -l -- -l -")
	j.Nodes = []api.Node{file("/-l", "a\n\n"), file("/-", "\n")}
	comes(t, j, "2 -l\n0 -\n2 total\n", "", 0)
	j.Args = []string{"wc", "./-", "-l"}
	comes(t, j, "1 0 1 ./-\n2 1 3 -l\n3 1 4 total\n", "", 0)
	j.Args = []string{"wc", "-c", "total", "./-"}
	j.Nodes[0].Path = "/total"
	comes(t, j, "3 total\n1 ./-\n4 total\n", "", 0)
}

// F4
func TestWcUsage(t *testing.T) {
	for _, args := range []string{"wc -x", "wc -lx f", "wc -m", "wc -L", "wc -c -u f", "wc -l-", "wc --l"} {
		refuses(t, args)
	}
}

// F1: one that fails has no line, and counts for nothing.
func TestWcInputsThatFail(t *testing.T) {
	j := job("", "wc -lc x y")
	j.Nodes = []api.Node{file("/x", "q\n")}
	comes(t, j, "1 2 x\n1 2 total\n", "wc: y: no such file\n", 1)
	comes(t, job("", "wc x"), "", "wc: x: no such file\n", 1)
	comes(t, job("", "wc d"), "", "wc: d: is a directory\n", 1)
	comes(t, job("", "wc x f"), "1 2 7 f\n1 2 7 total\n", "wc: x: no such file\n", 1)
	comes(t, job("", "wc f x"), "1 2 7 f\n1 2 7 total\n", "wc: x: no such file\n", 1)
	comes(t, job("", "wc x y"), "0 0 0 total\n", "wc: x: no such file\nwc: y: no such file\n", 1)
	comes(t, job("", "wc f x d/g d e f/x"), "1 2 7 f\n1 1 3 d/g\n0 0 0 e\n2 3 10 total\n", "wc: x: no such file\nwc: d: is a directory\nwc: f/x: not a directory\n", 1)
	j = job("", "wc -w")
	j.Args = append(j.Args, "", "f")
	comes(t, j, "2 f\n2 total\n", "wc: no such file\n", 1)
}

func TestWcReadsThatFail(t *testing.T) {
	for _, c := range []struct{ signs, args, out, errs string }{
		{"e", "wc", "", "wc: -: input/output error\n"},
		{".e", "wc", "", "wc: -: input/output error\n"},
		{"..e", "wc -", "", "wc: -: input/output error\n"},
		{"1i1ie", "wc -c", "", "wc: -: input/output error\n"},
		{".e", "wc - d/g", "1 1 3 d/g\n1 1 3 total\n", "wc: -: input/output error\n"},
		{"....e", "wc f -", "1 2 7 f\n1 2 7 total\n", "wc: -: input/output error\n"},
		{".e", "wc f -", "0 2 6 -\n0 2 6 total\n", "wc: f: input/output error\n"},
		{".e", "wc - -", "0 0 0 -\n0 0 0 total\n", "wc: -: input/output error\n"}, // the second one says no bytes
		{".e", "wc f x", "0 0 0 total\n", "wc: f: input/output error\nwc: x: no such file\n"},
	} {
		comes(t, faulty("ab cde", c.args, c.signs), c.out, c.errs, 1)
	}
}

// A word goes on only within an input.
func TestWcWordsBetweenInputs(t *testing.T) {
	j := job("b", "wc -w a - a")
	j.Nodes = []api.Node{file("/a", "a")}
	comes(t, j, "1 a\n1 -\n1 a\n3 total\n", "", 0)
}

// F2: said is one line, and nothing more is read.
func TestWcOutputThatFails(t *testing.T) {
	for _, c := range []struct {
		signs, args, out, errs string
		used                   int
	}{
		{"...e..", "wc", "", "wc: standard output: input/output error\n", 5},
		{"...1ip..", "wc", "0", "wc: standard output: broken pipe\n", 7},
		{"...s...", "wc - f x", "", "wc: standard output: no space left\n", 5},
		{".......e...", "wc - f e", "0 2 6 -\n", "wc: standard output: input/output error\n", 9},
		{"........2s...", "wc - f", "0 2 6 -\n1 2 7 f\n1 ", "wc: standard output: no space left\n", 11},
	} {
		r := comes(t, faulty("ab cde", c.args, c.signs), c.out, c.errs, 1)
		if r.Used != c.used {
			t.Errorf("%s, %s: %d faults were used, not %d", c.args, c.signs, r.Used, c.used)
		}
	}
}

// F3
func TestWcErrorsThatCantBeSaid(t *testing.T) {
	comes(t, faulty("q", "wc x y e", "2es"), "0 0 0 e\n0 0 0 total\n", "wc", 1)
	comes(t, faulty("q", "wc -x", "p"), "", "", 1)
	comes(t, faulty("q", "wc", "..ee"), "", "", 1)
}

func TestWcClosesInputs(t *testing.T) {
	j := job("", "wc -c"+strings.Repeat(" e d", 20))
	r := run(t, j)
	if want := strings.Repeat("0 e\n", 20) + "0 total\n"; string(r.Out) != want || strings.Contains(string(r.Err), "too many") {
		t.Errorf("told %q, said %q", r.Out, r.Err)
	}
}

// Descriptors that have something else, or nothing.
func TestWcDescriptors(t *testing.T) {
	r := newRig(t, job("q", "wc"))
	r.p.Table().Close(0)
	r.ends("", "wc: -: bad descriptor\n", 1)
	r = newRig(t, job("q", "wc - e"))
	r.put(0, r.k.Sink())
	r.ends("0 0 0 e\n0 0 0 total\n", "wc: -: invalid\n", 1)
	r = newRig(t, job("q", "wc e x"))
	r.put(1, r.k.Source(nil))
	r.ends("", "wc: standard output: invalid\n", 1)
}

// Counts of more than a few bytes.
func TestWcLong(t *testing.T) {
	in := strings.Repeat("word and word\n", 5000)
	for _, buf := range []int{1, 7, 4096, 1 << 40} {
		j := job(in, "wc")
		j.Lim = lim(buf)
		comes(t, j, "5000 15000 70000\n", "", 0)
	}
}
