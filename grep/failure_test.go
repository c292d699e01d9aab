package grep_test

import (
	"strings"
	"testing"

	"toolchest/api"
)

const (
	noX     = "grep: x: no such file\n"
	noY     = "grep: y: no such file\n"
	isDir   = "grep: d: is a directory\n"
	longK   = "grep: k: line too long\n"
	longL   = "grep: l: line too long\n"
	inWrong = "grep: -: input/output error\n"
)

// P17.4: inputs that fail, ahead of others, between and behind them. What was read ahead of that counts; -c tells nothing of them; -s says nothing, and nothing else is other than without it.
func TestInputsThatFail(t *testing.T) {
	for _, c := range []struct {
		args, out, errs string
		status          int
	}{
		{"grep a x", "", noX, 2},
		{"grep a d", "", isDir, 2},
		{"grep a l", "", longL, 2},
		{"grep a k", "a\n", longK, 2},
		{"grep b k", "", longK, 2},
		{"grep -n a k", "1:a\n", longK, 2},
		{"grep -v a k", "", longK, 2},
		{"grep -v b k", "a\n", longK, 2},
		{"grep a f/x", "", "grep: f/x: not a directory\n", 2},
		{"grep a ", "", "grep: no such file\n", 2},
		// Ahead, between, behind.
		{"grep a x f", "f:a 1\nf:ab 3\n", noX, 2},
		{"grep a d f", "f:a 1\nf:ab 3\n", isDir, 2},
		{"grep a k f", "k:a\nf:a 1\nf:ab 3\n", longK, 2},
		{"grep b f x h", "f:b 2\nf:ab 3\nh:b\n", noX, 2},
		{"grep b f k h", "f:b 2\nf:ab 3\nh:b\n", longK, 2},
		{"grep b f x", "f:b 2\nf:ab 3\n", noX, 2},
		{"grep a f k", "f:a 1\nf:ab 3\nk:a\n", longK, 2},
		{"grep b f l", "f:b 2\nf:ab 3\n", longL, 2},
		{"grep q x y", "", noX + noY, 2},
		{"grep a x d k l y f", "k:a\nf:a 1\nf:ab 3\n", noX + isDir + longK + longL + noY, 2},
		{"grep q f x h", "", noX, 2},
		{"grep a x -", "(standard input):a\n", noX, 2},
		{"grep a - x", "(standard input):a\n", noX, 2},
		// -c: of those that fail nothing, also where lines of them were selected.
		{"grep -c a x", "", noX, 2},
		{"grep -c a k", "", longK, 2},
		{"grep -cv q k", "", longK, 2},
		{"grep -c a x f", "f:2\n", noX, 2},
		{"grep -c a f k h", "f:2\nh:0\n", longK, 2},
		{"grep -c q f x", "f:0\n", noX, 2},
		{"grep -c a d x k l", "", isDir + noX + longK + longL, 2},
		// -l: those that have a selected line ahead of what fails, which is not come to.
		{"grep -l a x", "", noX, 2},
		{"grep -l a k", "k\n", "", 0},
		{"grep -l b k", "", longK, 2},
		{"grep -l a x f", "f\n", noX, 2},
		{"grep -l a f l k", "f\nk\n", longL, 2},
		{"grep -lv a k h", "h\n", longK, 2},
		// -q: 0, if a line was selected, whatever has failed ahead of it.
		{"grep -q a x", "", noX, 2},
		{"grep -q a x f", "", noX, 0},
		{"grep -q a f x", "", "", 0},
		{"grep -q a x d l h f y", "", noX + isDir + longL, 0},
		{"grep -q q x f", "", noX, 2},
		{"grep -q q f x", "", noX, 2},
		{"grep -q a k", "", "", 0},
		{"grep -q b k f", "", longK, 0},
		{"grep -q b k l", "", longK + longL, 2},
		{"grep -qv a k f", "", longK, 0},
		{"grep -qv a k l", "", longK + longL, 2},
	} {
		for buf := 1; buf < 12; buf++ {
			args := strings.Split(c.args, " ")
			j := jobOf("a\nz\n", args...)
			j.Lim.Buf = buf
			comes(t, j, c.out, c.errs, c.status)
			silent := jobOf("a\nz\n", append([]string{args[0], "-s"}, args[1:]...)...)
			silent.Lim.Buf = buf
			comes(t, silent, c.out, "", c.status)
			silent.Faults = faults(strings.Repeat("2i1", 40))
			comes(t, silent, c.out, "", c.status)
		}
	}
}

// A line of Line bytes, and a longer one: what stands behind it is not told.
func TestLongLines(t *testing.T) {
	const long = "grep: -: line too long\n"
	for _, c := range []struct {
		in, args, out, errs string
		status              int
	}{
		{"12345678\n", "grep 1", "12345678\n", "", 0},
		{"12345678", "grep 1", "12345678\n", "", 0},
		{"123456789\n", "grep 1", "", long, 2},
		{"123456789", "grep 1", "", long, 2},
		{"1\n123456789\n1\n", "grep 1", "1\n", long, 2},
		{"1\n123456789", "grep -n 1", "1:1\n", long, 2},
		{"2\n123456789\n1\n", "grep 1", "", long, 2},
		{"1\n1\n123456789\n", "grep -c 1", "", long, 2},
		{"1\n12345678\n\n", "grep -c 1", "2\n", "", 0},
		{"2\n123456789\n1\n", "grep -q 1", "", long, 2},
		{"2\n123456789\n1\n", "grep -l 1", "", long, 2},
		{"1\n123456789\n", "grep -q 1", "", "", 0},
		{"1\n123456789\n", "grep -l 1", "(standard input)\n", "", 0},
	} {
		anyhow(t, job(c.in, c.args), c.out, c.errs, c.status)
		j := job(c.in, c.args)
		j.Args = append(j.Args, "-", "e")
		out := ""
		for line := range strings.Lines(c.out) {
			if !strings.HasPrefix(line, "(") {
				line = "(standard input):" + line
			}
			out += line
		}
		if strings.Contains(c.args, "-c") {
			out += "e:0\n"
		}
		anyhow(t, j, out, c.errs, c.status)
	}
}

// Buf is 4: each Read of `a\nb\nc\na\n` brings two lines, and a third one finds the end.
func TestFaults(t *testing.T) {
	const in = "a\nb\nc\na\n"
	for _, c := range []struct {
		args, signs, out, errs string
		status                 int
	}{
		// A Read that fails: it is as if the input ended there.
		{"grep a", "e", "", inWrong, 2},
		{"grep a", "ie", "", inWrong, 2},
		{"grep a", "..e", "a\n", inWrong, 2},
		{"grep a", "..ie", "a\n", inWrong, 2},
		{"grep a", "....e", "a\na\n", inWrong, 2},
		{"grep b", ".e", "", "grep: standard output: input/output error\n", 2},
		{"grep -v a", "3.e", "", "grep: standard output: input/output error\n", 2},
		{"grep -v a", "3e", "", inWrong, 2}, // of `b` the end was not read
		{"grep -v a", "i4.e", "b\n", inWrong, 2},
		{"grep -c a", "e", "", inWrong, 2},
		{"grep -c a", ".e", "", inWrong, 2},
		{"grep -c a", "..e", "", inWrong, 2},
		{"grep -c z", "..e", "", inWrong, 2},
		{"grep -l a", "e", "", inWrong, 2},
		{"grep -l c", ".e", "", inWrong, 2},
		{"grep -l a", "..e", "(standard input)\n", "", 0},
		{"grep -q a", "e", "", inWrong, 2},
		{"grep -q c", ".e", "", inWrong, 2},
		{"grep -q a", ".e", "", "", 0},
		{"grep -qs c", ".e", "", "", 2},
		{"grep -s a", "..e", "a\n", "", 2},
		{"grep -sc a", "..e", "", "", 2},
		{"grep -s a", "e", "", "", 2},
		{"grep x", "..e", "", inWrong, 2},
		{"grep b - h", ".e", "", "grep: standard output: input/output error\n", 2},
		{"grep c - h", ".e..", "", inWrong, 2},
		{"grep b h -", "....e", "h:b\n", inWrong, 2},
		{"grep -q B - h", ".e", "", inWrong, 0},
		{"grep -q B - h", ".es", "", "", 0},
		{"grep -qs B - h", ".e", "", "", 0},
		{"grep -l B - h", ".e...", "h\n", inWrong, 2},
		{"grep -c B - h", ".e....", "h:1\n", inWrong, 2},
		{"grep -sc B - h", ".e", "h:1\n", "", 2},
		// A Write that fails: that is said, -s or not, and it ends.
		{"grep a", ".s", "", "grep: standard output: no space left\n", 2},
		{"grep a", ".p", "", "grep: standard output: broken pipe\n", 2},
		{"grep a", ".1s", "a", "grep: standard output: no space left\n", 2},
		{"grep -s a", ".s", "", "grep: standard output: no space left\n", 2},
		{"grep a", "...p", "a\n", "grep: standard output: broken pipe\n", 2},
		{"grep -n a", ".i2s", "1:", "grep: standard output: no space left\n", 2},
		{"grep -c a", "...s", "", "grep: standard output: no space left\n", 2},
		{"grep -sc a", "...e", "", "grep: standard output: input/output error\n", 2},
		{"grep -l a", ".s", "", "grep: standard output: no space left\n", 2},
		{"grep -l a - h", ".s", "", "grep: standard output: no space left\n", 2},
		{"grep -l a f h", ".1s", "f", "grep: standard output: no space left\n", 2},
		{"grep -c a f h x", "....1s", "f", "grep: standard output: no space left\n", 2},
		{"grep b f x", "..s", "", "grep: standard output: no space left\n", 2},
		// What can't be said.
		{"grep a", "es", "", "", 2},
		{"grep a", ".ss", "", "", 2},
		{"grep a", "ee", "", "", 2},
		{"grep a x", "s", "", "", 2},
		{"grep a x", "3s", "", "gre", 2},
		{"grep -q", "s", "", "", 2},
		{"grep -q a x -", "s", "", "", 0},
		// What befalls a Write alone does not befall a Read.
		{"grep -c a", "spsp..", "", "grep: standard output: broken pipe\n", 2},
		{"grep -c a", "sps", "2\n", "", 0},
		{"grep -q z", "sps", "", "", 1},
	} {
		comes(t, faulty(in, c.args, c.signs), c.out, c.errs, c.status)
	}
}

func TestDescriptors(t *testing.T) {
	const in = "a\nb\na\n"
	for _, c := range []struct {
		args, out, errs string
		status          int
	}{
		{"grep a", "", "grep: standard output: bad descriptor\n", 2},
		{"grep -s a", "", "grep: standard output: bad descriptor\n", 2},
		{"grep -c a", "", "grep: standard output: bad descriptor\n", 2},
		{"grep -c z", "", "grep: standard output: bad descriptor\n", 2},
		{"grep -l a", "", "grep: standard output: bad descriptor\n", 2},
		{"grep -l z", "", "", 1},
		{"grep z", "", "", 1},
		{"grep -q a", "", "", 0},
		{"grep -q z", "", "", 1},
		{"grep x x", "", noX, 2},
	} {
		r := newRig(t, job(in, c.args))
		r.put(r.in, 0) // nothing to tell it to
		r.ends(c.out, c.errs, c.status)
	}
	r := newRig(t, job(in, "grep a"))
	r.put(0)
	r.ends("", "grep: -: bad descriptor\n", 2)
	r = newRig(t, job(in, "grep -s a - h"))
	r.put(0, r.out)
	r.ends("", "", 2)
	r = newRig(t, job(in, "grep -c a - f"))
	r.put(r.out)
	r.ends("f:2\n", "grep: -: invalid\n", 2)
	for _, args := range []string{"grep a x", "grep -f x a", "grep [", "grep"} {
		r = newRig(t, job(in, args))
		r.put(r.in, r.out, 0)
		r.ends("", "", 2)
	}
	// All descriptors are taken.
	for _, c := range []struct{ args, out, errs string }{
		{"grep a f", "", "grep: f: too many\n"},
		{"grep a f -", "(standard input):a\n(standard input):a\n", "grep: f: too many\n"},
		{"grep -f ab -", "", "grep: ab: too many\n"},
	} {
		r = newRig(t, job(in, c.args))
		for fd := 3; fd < api.MaxFds; fd++ {
			r.p.Table().Put(fd, r.in)
		}
		r.ends(c.out, c.errs, 2)
	}
}

// Each input is closed behind its turn, and each FILE.
func TestManyInputs(t *testing.T) {
	j := job("", "grep -c a"+strings.Repeat(" f", 40))
	comes(t, j, strings.Repeat("f:2\n", 40), "", 0)
	j = job("", "grep -l a"+strings.Repeat(" f k h", 20))
	comes(t, j, strings.Repeat("f\nk\n", 20), "", 0)
	j = job("", "grep -c"+strings.Repeat(" -f ab", 40)+strings.Repeat(" k f", 20))
	comes(t, j, strings.Repeat("f:3\n", 20), strings.Repeat(longK, 20), 2)
}

// What is held: a line and a buffer at most, whatever is told, and however many patterns there are.
func TestHeld(t *testing.T) {
	in := strings.Repeat("12345678\nabcdefgh\n", 50)
	for buf := 1; buf < 40; buf++ {
		for _, args := range []string{"grep 1", "grep -n 1 -", "grep -v 1 - h", "grep -c 1", "grep -f p -f ab", "grep -vf p - f", "grep -f - f"} {
			j := job(in, args)
			j.Lim.Buf = buf
			j.Nodes = append(j.Nodes, file("/p", strings.Repeat("12345678\n\na\n", 30)))
			if r := run(t, j); r.Peak > 8+buf || r.Peak < min(buf, 8) {
				t.Errorf("%s, Buf %d: %d bytes were held", args, buf, r.Peak)
			}
		}
	}
}
