package sortkit_test

import (
	"strings"
	"testing"

	"toolchest/api"
)

// P13.2: the lines of all inputs, each with a line feed behind it.
func TestLines(t *testing.T) {
	for _, c := range []struct{ in, out string }{
		{"", ""},
		{"\n", "\n"},
		{"a", "a\n"},
		{"a\n", "a\n"},
		{"b\na", "a\nb\n"},
		{"b\na\n", "a\nb\n"},
		{"\n\n\n", "\n\n\n"},
		{"b\n\na\n\n", "\n\na\nb\n"},
		{"a\na\na", "a\na\na\n"},
		{"b\na\nb\na\n", "a\na\nb\nb\n"},
		{"ab\na\nabc\n", "a\nab\nabc\n"},
		{"a\x00\na\na\x00b\n", "a\na\x00\na\x00b\n"},
		{"\xff\n\x7f\n\x00\n", "\x00\n\x7f\n\xff\n"},
		{"a\r\na\n", "a\na\r\n"},
		{"12345678\n1234567\n", "1234567\n12345678\n"},
	} {
		comesAnyhow(t, c.in, c.out, "sort")
		comesAnyhow(t, c.in, c.out, "sort", "-")
	}
}

// Lines that are the same by the keys are sorted by their bytes; with -r these are turned, with a key's own r they are not.
func TestLinesThatAreTheSameByKeys(t *testing.T) {
	const in = "b x\na x\nc w\na x\n"
	comesAnyhow(t, in, "c w\na x\na x\nb x\n", "sort", "-k", "2")
	comesAnyhow(t, in, "b x\na x\na x\nc w\n", "sort", "-rk", "2")
	comesAnyhow(t, in, "a x\na x\nb x\nc w\n", "sort", "-k", "2r")
	comesAnyhow(t, "01\n1\n001\n", "001\n01\n1\n", "sort", "-n")
	comesAnyhow(t, "b\nB\na\nA\n", "A\na\nB\nb\n", "sort", "-f")
}

// With -u the first one alone, in the order of the inputs.
func TestUnique(t *testing.T) {
	comesAnyhow(t, "", "", "sort", "-u")
	comesAnyhow(t, "a", "a\n", "sort", "-u")
	comesAnyhow(t, "\n\n", "\n", "sort", "-u")
	comesAnyhow(t, "a\na\na", "a\n", "sort", "-u")
	comesAnyhow(t, "b\na\nb\na", "a\nb\n", "sort", "-u")
	comesAnyhow(t, "b\nB\na\nA\nb\n", "a\nb\n", "sort", "-u", "-f")
	comesAnyhow(t, "B\nb\nA\na\nB\n", "A\nB\n", "sort", "-u", "-f")
	comesAnyhow(t, "b\nB\na\nA\nb\n", "b\na\n", "sort", "-u", "-f", "-r")
	comesAnyhow(t, "b x\na x\nc w\na x\n", "c w\nb x\n", "sort", "-uk2")
	comesAnyhow(t, "1\n01\n10\n1 x\nq\n\n010\n", "q\n1\n10\n", "sort", "-un")
}

// Of several inputs, whichever way they stand.
func TestUniqueOverSeveralInputs(t *testing.T) {
	for _, c := range []struct{ args, out string }{
		{"sort -fu p q", "a\nb\nC\n"},
		{"sort -fu q p", "A\nB\nC\n"},
		{"sort -fu p q p", "a\nb\nC\n"},
		{"sort -fu q - p", "A\nB\nC\nd\n"},
		{"sort -fu - q p", "A\nB\nc\nd\n"},
		{"sort -fu e q e", "A\nB\nC\n"},
		{"sort -u p q", "A\nB\nC\na\nb\n"},
		{"sort -fru p q", "C\nb\na\n"},
	} {
		for _, l := range []api.Limits{lim(1, 2, 2), lim(1, 1, 1), lim(1, 1, 5), lim(3, 3, 3), lim(4, 8, 100)} {
			j := job("d\nc\n", c.args)
			j.Nodes = append(j.Nodes, file("/p", "b\na"), file("/q", "B\nC\nA\nC\n"))
			j.Lim = l
			comes(t, j, c.out, "", 0)
		}
	}
}

func TestInputs(t *testing.T) {
	comes(t, job("q", "sort f"), "apple\nfig\nfig\npear\n", "", 0)
	comes(t, job("q", "sort f -"), "apple\nfig\nfig\npear\nq\n", "", 0)
	comes(t, job("b\n", "sort - f"), "apple\nb\nfig\nfig\npear\n", "", 0)
	comes(t, job("b", "sort e - e"), "b\n", "", 0)
	comes(t, job("b", "sort f f e h d/g"), "\n-1\n10\n9\napple\napple\nfig\nfig\nfig\nfig\ngg\npear\npear\n", "", 0)
	comes(t, job("b", "sort e"), "", "", 0)
	comes(t, job("b\na\n", "sort - -"), "a\nb\n", "", 0)
}

// P13.2, F1: inputs that fail, with the status 2; the others count.
func TestInputsThatFail(t *testing.T) {
	comes(t, job("q", "sort x"), "", "sort: x: no such file\n", 2)
	comes(t, job("q", "sort d"), "", "sort: d: is a directory\n", 2)
	comes(t, job("q", "sort f/x"), "", "sort: f/x: not a directory\n", 2)
	comes(t, job("q", "sort x - d f y"), "apple\nfig\nfig\npear\nq\n", "sort: x: no such file\nsort: d: is a directory\nsort: y: no such file\n", 2)
	comes(t, job("q", "sort d/x"), "", "sort: d/x: no such file\n", 2)
	comes(t, jobOf("q", "sort", ""), "", "sort: no such file\n", 2)
	// A line that is too long: what stands ahead of it counts.
	comes(t, job("q", "sort k"), "b\n", "sort: k: line too long\n", 2)
	comes(t, job("q", "sort l"), "", "sort: l: line too long\n", 2)
	comes(t, job("q", "sort k - l"), "b\nq\n", "sort: k: line too long\nsort: l: line too long\n", 2)
	comes(t, job("123456789", "sort"), "", "sort: -: line too long\n", 2)
	comes(t, job("b\n123456789\na", "sort - f"), "apple\nb\nfig\nfig\npear\n", "sort: -: line too long\n", 2)
	// A Read that fails: what was read of its line is gone.
	comes(t, faulty("b\na\nq\nc\n", "sort", "e"), "", "sort: -: input/output error\n", 2)
	comes(t, faulty("b\na\nq\nc\n", "sort", ".e"), "a\nb\n", "sort: -: input/output error\n", 2)
	comes(t, faulty("b\naaa\nc\n", "sort - f", ".e"), "apple\nb\nfig\nfig\npear\n", "sort: -: input/output error\n", 2)
	comes(t, faulty("b\na\n", "sort", "..e"), "", "sort: standard output: input/output error\n", 2)
	comes(t, faulty("q", "sort f -", "...e"), "fig\npear\nq\n", "sort: f: input/output error\n", 2)
}

// The line behind which an input ends, and one that is too long, also where all of it is spilt.
func TestInputsThatFailWhereLinesAreSpilt(t *testing.T) {
	const many = "fe\nab\ndc\nab\nfe\ndc\nxy\nzz\n"
	for buf := 1; buf < 9; buf++ {
		j := tight(many+"123456789\naa\n", "sort - x f")
		j.Lim.Buf = buf
		comes(t, j, "ab\nab\napple\ndc\ndc\nfe\nfe\nfig\nfig\npear\nxy\nzz\n", "sort: -: line too long\nsort: x: no such file\n", 2)
		j.In = []byte(many + "12345678\n87654321")
		comes(t, j, "12345678\n87654321\nab\nab\napple\ndc\ndc\nfe\nfe\nfig\nfig\npear\nxy\nzz\n", "sort: x: no such file\n", 2)
	}
}

// P13.2: -o writes to a file when all inputs have been read.
func TestFile(t *testing.T) {
	writes := func(j api.Job, path, data, errs string, status int) {
		t.Helper()
		for _, l := range []api.Limits{j.Lim, lim(1, 8, 8), lim(3, 8, 20)} {
			j.Lim = l
			comesTo(t, j, api.Result{Err: []byte(errs), Status: status, Nodes: with(j.Nodes, path, data)})
		}
	}
	writes(job("b\na", "sort -o z"), "/z", "a\nb\n", "", 0)
	writes(job("b\na", "sort -oe"), "/e", "a\nb\n", "", 0)
	writes(job("", "sort -o z"), "/z", "", "", 0)
	writes(job("", "sort -o f"), "/f", "", "", 0)
	writes(job("b\na", "sort -o d/z -"), "/d/z", "a\nb\n", "", 0)
	writes(job("b\na", "sort -o -"), "/-", "a\nb\n", "", 0)
	// A file that is an input.
	writes(job("q", "sort -o f f"), "/f", "apple\nfig\nfig\npear\n", "", 0)
	writes(job("q", "sort -uo f f"), "/f", "apple\nfig\npear\n", "", 0)
	writes(job("q", "sort -o f - f h"), "/f", "\n-1\n10\n9\napple\nfig\nfig\npear\nq\n", "", 0)
	writes(job("q", "sort -m -o f f f"), "/f", "apple\napple\nfig\nfig\nfig\nfig\npear\npear\n", "", 0)
	// Inputs that fail.
	writes(job("q", "sort -o z x -"), "/z", "q\n", "sort: x: no such file\n", 2)
	writes(job("q", "sort -o f x"), "/f", "", "sort: x: no such file\n", 2)
	writes(job("q", "sort -o z z"), "/z", "", "sort: z: no such file\n", 2)
	writes(job("q", "sort -o k k"), "/k", "b\n", "sort: k: line too long\n", 2)
}

// One that can't be opened.
func TestFileThatCannotBeOpened(t *testing.T) {
	for _, l := range []api.Limits{lim(4, 8, 1000), lim(1, 8, 8)} {
		for _, c := range []struct{ file, word string }{
			{"d", "d: is a directory"},
			{"x/y", "x/y: no such file"},
			{"f/y", "f/y: not a directory"},
			{"z/", "z/: not a directory"},
			{strings.Repeat("n", 33), strings.Repeat("n", 33) + ": bad name"},
		} {
			j := jobOf("b\na\nd\nc\ng\nf\nh\ni\nk\nj\n", "sort", "-o", c.file)
			j.Lim = l
			comes(t, j, "", "sort: "+c.word+"\n", 2)
			j.Args = append(j.Args, "x", "-")
			comes(t, j, "", "sort: x: no such file\nsort: "+c.word+"\n", 2)
		}
	}
	r := newRig(t, jobOf("b\na\n", "sort", "-o", ""))
	if got := r.result(nil); got.Status != 2 || len(got.Out) > 0 || !strings.HasPrefix(string(got.Err), "sort: ") {
		t.Errorf("a file without a name: %v", got)
	}
}

// One that can't be written: what was written there is a beginning.
func TestFileThatCannotBeWritten(t *testing.T) {
	for _, c := range []struct{ signs, data, word string }{
		{"..s", "", "no space left"},
		{"...e", "a\n", "input/output error"},
		{"..1p", "a", "broken pipe"},
		{"...i1s", "a\nb", "no space left"},
	} {
		j := faulty("b\na\n", "sort -o f", c.signs)
		j.Lim.Buf = 9
		comesTo(t, j, api.Result{Err: []byte("sort: f: " + c.word + "\n"), Status: 2, Nodes: with(j.Nodes, "/f", c.data)})
	}
	// More than a file may have.
	j := job(strings.Repeat("1234567\n", 2000), "sort -o z")
	j.Lim = lim(4096, 8, 1<<20)
	comesTo(t, j, api.Result{Err: []byte("sort: z: no space left\n"), Status: 2, Nodes: with(j.Nodes, "/z", strings.Repeat("1234567\n", 1024))})
}

// The file is as it was till all inputs have been read.
func TestFileIsOpenedLast(t *testing.T) {
	for _, l := range []api.Limits{lim(2, 8, 1000), lim(1, 8, 8)} {
		j := job("b\na\n", "sort -o f f - h")
		j.Lim = l
		r := newRig(t, j)
		m := r.start()
		for r.dataOf("/f") == "pear\nfig\napple\nfig" {
			m.Step()
		}
		if rest, _ := r.p.Table().Read(0, 9); len(rest) != 0 {
			t.Errorf("Lim %v: %q was not read", l, rest)
		}
		if got := r.dataOf("/f"); got != "" {
			t.Errorf("Lim %v: it says %q", l, got)
		}
	}
}

// F2: the descriptor 1 can't be written to.
func TestOutputThatFails(t *testing.T) {
	comes(t, faulty("b\na\n", "sort", "..s"), "", "sort: standard output: no space left\n", 2)
	comes(t, faulty("b\na\n", "sort", "...p"), "a\n", "sort: standard output: broken pipe\n", 2)
	comes(t, faulty("b\na\n", "sort", "..1e"), "a", "sort: standard output: input/output error\n", 2)
	comes(t, faulty("b\na\n", "sort x -", "...s"), "", "sort: x: no such file\nsort: standard output: no space left\n", 2)
	r := newRig(t, job("b\na\n", "sort"))
	r.put(r.in, 0, r.err)
	r.ends("", "sort: standard output: bad descriptor\n", 2)
	r = newRig(t, job("", "sort"))
	r.put(r.in, 0, r.err)
	r.ends("", "", 0) // nothing is to be written
}

// F3: the descriptor 2 can't be written to.
func TestErrorsThatCannotBeSaid(t *testing.T) {
	for _, c := range []struct {
		args, out string
		status    int
	}{{"sort x -", "a\nb\n", 2}, {"sort -x", "", 2}, {"sort -c", "", 1}, {"sort -C", "", 1}, {"sort k", "b\n", 2}, {"sort -o d", "", 2}} {
		r := newRig(t, job("b\na\n", c.args))
		r.put(r.in, r.out, 0)
		r.ends(c.out, "", c.status)
	}
	comes(t, faulty("b\na\n", "sort x -", "s"), "a\nb\n", "", 2)
	comes(t, faulty("b\na\n", "sort x -", "3e"), "a\nb\n", "sor", 2)
}

func TestNoInput(t *testing.T) {
	r := newRig(t, job("", "sort"))
	r.put(0, r.out, r.err)
	r.ends("", "sort: -: bad descriptor\n", 2)
	r = newRig(t, job("", "sort -c"))
	r.put(0, r.out, r.err)
	r.ends("", "sort: -: bad descriptor\n", 2)
}
