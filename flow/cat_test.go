package flow_test

import (
	"strings"
	"testing"

	"toolchest/api"
)

// P7.1

func TestCat(t *testing.T) {
	for _, c := range []struct{ in, args, out string }{
		{"", "cat", ""},
		{"q", "cat", "q"},
		{"a\n\nbc", "cat", "a\n\nbc"},
		{"abcdefghi", "cat -", "abcdefghi"},
		{"\x00\xff\n\x80", "cat", "\x00\xff\n\x80"},
		{"q", "cat f", "one\ntwo"},
		{"q", "cat e", ""},
		{"q", "cat f d/g", "one\ntwogg\n"},
		{"q", "cat f - d/g", "one\ntwoqgg\n"},
		{"q", "cat f e f", "one\ntwoone\ntwo"},
		{"q", "cat /f ./d/../d//g", "one\ntwogg\n"},
		{"q", "cat - f -", "qone\ntwo"},
		{"abcdef", "cat - - -", "abcdef"},
	} {
		for buf := 1; buf < 12; buf++ {
			j := job(c.in, c.args)
			j.Lim = lim(buf)
			treeStays(t, j, comes(t, j, c.out, "", 0))
		}
	}
}

func TestCatOptions(t *testing.T) {
	for _, args := range []string{"cat -u", "cat -u -", "cat -uuu", "cat -u -u -", "cat --", "cat -u --", "cat -- -", "cat -u -- -"} {
		comes(t, job("abcdef", args), "abcdef", "", 0)
	}
	comes(t, job("q", "cat -u f"), "one\ntwo", "", 0)
	comes(t, job("q", "cat -- -u"), "", "cat: -u: no such file\n", 1)
	comes(t, job("q", "cat f -u"), "one\ntwo", "cat: -u: no such file\n", 1)
	comes(t, job("q", "cat -- --"), "", "cat: --: no such file\n", 1)
	j := job("q", "cat -- -u - --")
	j.Nodes = []api.Node{file("/-u", "U"), file("/-", "no"), file("/--", "D")}
	comes(t, j, "UqD", "", 0)
	j.Args = []string{"cat", "./-"}
	comes(t, j, "no", "", 0)
}

// F4: nothing else is done.
func TestCatUsage(t *testing.T) {
	for _, args := range []string{"cat -x", "cat -x f", "cat -ux", "cat -xu", "cat -u -a f", "cat -U", "cat -u-", "cat --u", "cat -:"} {
		refuses(t, args)
	}
}

// F1
func TestCatInputsThatFail(t *testing.T) {
	comes(t, job("q", "cat x"), "", "cat: x: no such file\n", 1)
	comes(t, job("q", "cat d"), "", "cat: d: is a directory\n", 1)
	comes(t, job("q", "cat x f"), "one\ntwo", "cat: x: no such file\n", 1)
	comes(t, job("q", "cat f x"), "one\ntwo", "cat: x: no such file\n", 1)
	comes(t, job("q", "cat x - d f f/y y"), "qone\ntwo", "cat: x: no such file\ncat: d: is a directory\ncat: f/y: not a directory\ncat: y: no such file\n", 1)
	j := job("q", "cat")
	j.Args = append(j.Args, "", "f", "a\x00")
	comes(t, j, "one\ntwo", "cat: no such file\ncat: a\x00: bad name\n", 1)
}

// F1: what was read ahead of an error counts, the descriptor 0 too.
func TestCatReadsThatFail(t *testing.T) {
	for _, c := range []struct{ signs, args, out, errs string }{
		{"e", "cat", "", "cat: -: input/output error\n"},
		{"..e", "cat", "abcd", "cat: -: input/output error\n"},
		{"..ie", "cat", "abcd", "cat: -: input/output error\n"},
		{"2.e", "cat", "ab", "cat: -: input/output error\n"},
		{"....e", "cat", "abcdef", "cat: -: input/output error\n"},
		{"..e", "cat - d/g", "abcdgg\n", "cat: -: input/output error\n"},
		{"..e", "cat f -", "one\nabcdef", "cat: f: input/output error\n"},
		{"e", "cat f x d/g e", "gg\n", "cat: f: input/output error\ncat: x: no such file\n"},
		{"..e", "cat - -", "abcd", "cat: -: input/output error\n"}, // the second one says no bytes
		{"e", "cat - f - -", "one\ntwo", "cat: -: input/output error\n"},
	} {
		comes(t, faulty("abcdef", c.args, c.signs), c.out, c.errs, 1)
	}
}

// F2: said is one line, and nothing more is read.
func TestCatOutputThatFails(t *testing.T) {
	for _, c := range []struct {
		signs, args, out, errs string
		used                   int
	}{
		{".e...", "cat", "", "cat: standard output: input/output error\n", 3},
		{".s...", "cat - f x", "", "cat: standard output: no space left\n", 3},
		{".p...", "cat", "", "cat: standard output: broken pipe\n", 3},
		{".2ie...", "cat", "ab", "cat: standard output: input/output error\n", 5},
		{"...s...", "cat - x", "abcd", "cat: standard output: no space left\n", 5},
		{"....p...", "cat x f -", "one\n", "cat: x: no such file\ncat: standard output: broken pipe\n", 6}, // the line about x is a transfer, too
	} {
		r := comes(t, faulty("abcdef", c.args, c.signs), c.out, c.errs, 1)
		if r.Used != c.used {
			t.Errorf("%s, %s: %d faults were used, not %d", c.args, c.signs, r.Used, c.used)
		}
	}
}

// F3
func TestCatErrorsThatCantBeSaid(t *testing.T) {
	comes(t, faulty("q", "cat x y - z", "e3s"), "q", "catcat: z: no such file\n", 1)
	comes(t, faulty("q", "cat -x", "p"), "", "", 1)
	comes(t, faulty("q", "cat", ".ee"), "", "", 1)
	r := newRig(t, job("q", "cat x -"))
	r.p.Table().Close(2)
	r.ends("q", "", 1)
}

// Each input is closed behind its turn, also one that fails: else there were too many.
func TestCatClosesInputs(t *testing.T) {
	var errs string
	for range 20 {
		errs += "cat: d: is a directory\n"
	}
	comes(t, job("", "cat"+strings.Repeat(" f d", 20)), strings.Repeat("one\ntwo", 20), errs, 1)
}

func TestCatCwd(t *testing.T) {
	j := job("q", "cat g ../f f")
	j.Cwd = "/d"
	comes(t, j, "gg\none\ntwo", "cat: f: no such file\n", 1)
}

// Descriptors that have something else, or nothing.
func TestCatDescriptors(t *testing.T) {
	r := newRig(t, job("q", "cat"))
	r.p.Table().Close(0)
	r.ends("", "cat: -: bad descriptor\n", 1)
	r = newRig(t, job("q", "cat - -"))
	r.put(0, r.k.Sink())
	r.ends("", "cat: -: invalid\n", 1)
	r = newRig(t, job("q", "cat f x"))
	r.put(1, r.k.Source(nil))
	r.ends("", "cat: standard output: invalid\n", 1)
	r = newRig(t, job("q", "cat"))
	r.p.Table().Close(1)
	r.ends("", "cat: standard output: bad descriptor\n", 1)
}
