package merge_test

import (
	"strings"
	"testing"
)

// P14.2

// Each letter alone, two and all three of them.
func TestComm(t *testing.T) {
	const x, y = "a\nc\nd\nf\n", "b\nc\ne\nf\n"
	for _, c := range []struct{ options, out string }{
		{"", "a\n\tb\n\t\tc\nd\n\te\n\t\tf\n"},
		{"-1", "b\n\tc\ne\n\tf\n"},
		{"-2", "a\n\tc\nd\n\tf\n"},
		{"-3", "a\n\tb\nd\n\te\n"},
		{"-12", "c\nf\n"},
		{"-13", "b\ne\n"},
		{"-23", "a\nd\n"},
		{"-123", ""},
		{"-21", "c\nf\n"},
		{"-1 -2", "c\nf\n"},
		{"-3 -1", "b\ne\n"},
		{"-1 -2 -3", ""},
		{"-11", "b\n\tc\ne\n\tf\n"},
		{"-1 --", "b\n\tc\ne\n\tf\n"},
	} {
		anyhow(t, two(x, y, append([]string{"comm"}, strings.Fields(c.options)...)...), c.out)
	}
}

func TestCommLines(t *testing.T) {
	for _, c := range []struct{ x, y, out string }{
		// An empty input, first, second, both.
		{"", "", ""},
		{"", "a\nb\n", "\ta\n\tb\n"},
		{"a\nb\n", "", "a\nb\n"},
		{"", "a", "\ta\n"},
		{"a", "", "a\n"},
		{"\n", "", "\n"},
		{"", "\n", "\t\n"},
		{"\n", "\n", "\t\t\n"},
		// Last lines without line feeds.
		{"a", "a", "\t\ta\n"},
		{"a\n", "a", "\t\ta\n"},
		{"a", "b", "a\n\tb\n"},
		{"b", "a", "\ta\nb\n"},
		// All lines in both, none in both.
		{"a\nb\nc\n", "a\nb\nc\n", "\t\ta\n\t\tb\n\t\tc\n"},
		{"a\nb\n", "c\nd\n", "a\nb\n\tc\n\td\n"},
		{"c\nd\n", "a\nb\n", "\ta\n\tb\nc\nd\n"},
		// As often in one as in the other, and more often.
		{"a\na\n", "a\na\n", "\t\ta\n\t\ta\n"},
		{"a\na\na\n", "a\n", "\t\ta\na\na\n"},
		{"a\n", "a\na\na\n", "\t\ta\n\ta\n\ta\n"},
		{"a\na\nb\n", "a\nb\n", "\t\ta\na\n\t\tb\n"},
		{"a\nb\n", "a\na\nb\n", "\t\ta\n\ta\n\t\tb\n"},
		// A line that is the beginning of another one; the empty one is of all.
		{"a\nab\n", "ab\nabc\n", "a\n\t\tab\n\tabc\n"},
		{"ab\n", "a\nabc\n", "\ta\nab\n\tabc\n"},
		{"\na\n", "a\n", "\n\t\ta\n"},
		{"a\n", "\na\n", "\t\n\t\ta\n"},
		// By bytes: those from 128 on are the greatest ones.
		{"A\na\nz\n\x80\n\xff\n", "\x00\nB\nb\n\x7f\n\x81\n", "\t\x00\nA\n\tB\na\n\tb\nz\n\t\x7f\n\x80\n\t\x81\n\xff\n"},
		{"z\n\u00e4\n", "z\n\u00e4\n", "\t\tz\n\t\t\u00e4\n"},
		{"\xff\n", "\xff\xff\n", "\xff\n\t\xff\xff\n"},
		{"\xff\n", "a\n", "\ta\n\xff\n"},
		{"10\n9\n", "10\n9\n", "\t\t10\n\t\t9\n"},
		{"10\n", "9\n", "10\n\t9\n"},
		{" a\n", "a\n", " a\n\ta\n"},
		{"\ta\n", "a\n", "\ta\n\ta\n"},
		// Inputs that are not in order: the lesser one of both next lines, whatever follows.
		{"b\na\n", "a\nb\n", "\ta\n\t\tb\na\n"},
		{"b\na\n", "b\na\n", "\t\tb\n\t\ta\n"},
		{"z\na\n", "m\nb\n", "\tm\n\tb\nz\na\n"},
	} {
		anyhow(t, two(c.x, c.y, "comm"), c.out)
	}
}

func TestCommUsage(t *testing.T) {
	for _, args := range []string{
		"comm", "comm f", "comm -", "comm f h e", "comm - f h", "comm -1", "comm -12 f", "comm -123 f h e", "comm x", "comm x y z", "comm --", "comm -- f",
		"comm -4 f h", "comm -0 f h", "comm -14 f h", "comm -x f h", "comm -i f h", "comm --check-order f h", "comm -1x f h", "comm -1 -",
	} {
		refuses(t, strings.Fields(args)...)
	}
	comes(t, job("q", "comm f -1"), "a 1\na 2\nb 3\nd 4\n", "comm: -1: no such file\n", 2)
}

func TestCommInputs(t *testing.T) {
	const f, h = "a 1\na 2\nb 3\nd 4\n", "\ta x\n\tc y\n\td z\n\td w\n"
	anyhow(t, job("q", "comm f h"), "a 1\na 2\n\ta x\nb 3\n\tc y\nd 4\n\td z\n\td w\n")
	anyhow(t, job("a 1\nb", "comm f -"), "\t\ta 1\na 2\n\tb\nb 3\nd 4\n")
	anyhow(t, job("a 1\nb", "comm - f"), "\t\ta 1\n\ta 2\nb\n\tb 3\n\td 4\n")
	anyhow(t, job("", "comm - f"), "\ta 1\n\ta 2\n\tb 3\n\td 4\n")
	anyhow(t, job("q", "comm -12 f f"), f)
	anyhow(t, job("gg\n", "comm -3 d/g -"), "")
	for buf := 1; buf < 15; buf++ {
		for _, c := range []struct{ args, out, errs string }{
			{"comm x f", "\t" + strings.ReplaceAll(f[:len(f)-1], "\n", "\n\t") + "\n", "comm: x: no such file\n"},
			{"comm h x", strings.ReplaceAll(h, "\t", ""), "comm: x: no such file\n"},
			{"comm x y", "", "comm: x: no such file\ncomm: y: no such file\n"},
			{"comm d h", h, "comm: d: is a directory\n"},
			{"comm f d", f, "comm: d: is a directory\n"},
			{"comm f/x e", "", "comm: f/x: not a directory\n"},
			{"comm l h", h, "comm: l: line too long\n"},
			{"comm f l", f, "comm: l: line too long\n"},
			{"comm k e", "a\n", "comm: k: line too long\n"},
			{"comm e k", "\ta\n", "comm: k: line too long\n"},
			{"comm k k", "\t\ta\n", "comm: k: line too long\ncomm: k: line too long\n"},
			{"comm -123 k k", "", "comm: k: line too long\ncomm: k: line too long\n"}, // all is read, though nothing is told
		} {
			j := job("q", c.args)
			j.Lim.Buf = buf
			comes(t, j, c.out, c.errs, 2)
			j.Faults = faults(strings.Repeat("2i1", 20))
			comes(t, j, c.out, c.errs, 2)
		}
	}
	comes(t, jobOf("q", "comm", "", "d/g"), "\tgg\n", "comm: no such file\n", 2)
}

// A line of Line bytes, and a longer one, in either input: it has ended there, and the other one goes on.
func TestCommLongLines(t *testing.T) {
	const long = "12345678"
	for buf := 1; buf < 30; buf++ {
		for _, c := range []struct{ x, y, out, errs string }{
			{long + "\n", long, "\t\t12345678\n", ""},
			{long, "1\n2\n", "\t1\n12345678\n\t2\n", ""},
			{"0\n" + long + "9\n2\n", "1\n" + long + "\n", "0\n\t1\n\t12345678\n", "comm: x: line too long\n"},
			{"1\n" + long + "\n", "0\n" + long + "9", "\t0\n1\n12345678\n", "comm: y: line too long\n"},
		} {
			j := two(c.x, c.y, "comm")
			j.Lim = lim(buf, 8)
			status := 0
			if c.errs != "" {
				status = 2
			}
			comes(t, j, c.out, c.errs, status)
		}
	}
}

// Buf is 4: each Read has a sign, and each Write.
func TestCommFailures(t *testing.T) {
	const in = "a\nb\nc\n"
	for _, c := range []struct {
		args, signs, out, errs string
		status                 int
	}{
		{"comm - e", "e", "", "comm: -: input/output error\n", 2},
		{"comm - e", "...e", "a\n", "comm: standard output: input/output error\n", 2},
		{"comm - e", "....e", "a\nb\n", "comm: -: input/output error\n", 2},
		{"comm e -", ".e", "", "comm: -: input/output error\n", 2},
		{"comm - d/g", "e", "\tgg\n", "comm: -: input/output error\n", 2},
		{"comm - d/g", ".e", "a\nb\nc\n", "comm: d/g: input/output error\n", 2},
		{"comm - d/g", "..s", "", "comm: standard output: no space left\n", 2},
		{"comm - d/g", "..e", "", "comm: standard output: input/output error\n", 2},
		{"comm - d/g", "..1p", "a", "comm: standard output: broken pipe\n", 2},
		{"comm - d/g", "....e", "a\nb\n\tgg\n", "comm: -: input/output error\n", 2},
		{"comm - d/g", "ee", "\tgg\n", "", 2}, // what can't be said
		{"comm - d/g", "..ss", "", "", 2},
		{"comm - x", "..s", "", "comm: x: no such file\ncomm: standard output: no space left\n", 2},
		{"comm - d/g", "ss", "a\nb\nc\n\tgg\n", "", 0}, // a Read does not mind it
		{"comm -123 - d/g", "....p", "", "", 0},
		{"comm -x", "e", "", "", 2},
	} {
		comes(t, faulty(in, c.args, c.signs), c.out, c.errs, c.status)
	}
}

func TestCommDescriptors(t *testing.T) {
	r := newRig(t, job("a\n", "comm - d/g"))
	r.put(r.out)
	r.ends("\tgg\n", "comm: -: invalid\n", 2)
	r = newRig(t, job("a\n", "comm x -"))
	r.put(0)
	r.ends("", "comm: x: no such file\ncomm: -: bad descriptor\n", 2)
	r = newRig(t, job("a\n", "comm - x"))
	r.put(r.in, 0)
	r.ends("", "comm: x: no such file\ncomm: standard output: bad descriptor\n", 2)
	r = newRig(t, job("a\n", "comm - x"))
	r.put(r.in, r.out, 0)
	r.ends("a\n", "", 2)
}

// What is held is what both readers do: of each a line, and what was read ahead.
func TestCommHolds(t *testing.T) {
	for buf := 1; buf < 40; buf++ {
		line := "12345678\n"
		for _, c := range []struct{ x, y, out string }{
			{strings.Repeat(line, 50), strings.Repeat(line, 50), strings.Repeat("\t\t"+line, 50)},
			{strings.Repeat(line, 50), "", strings.Repeat(line, 50)},
			{"9\n", strings.Repeat(line, 50), strings.Repeat("\t"+line, 50) + "9\n"},
		} {
			j := two(c.x, c.y, "comm")
			j.Lim = lim(buf, 8)
			comes(t, j, c.out, "", 0) // which looks at what was held
		}
	}
}
