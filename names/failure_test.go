package names_test

import (
	"strings"
	"testing"

	"toolchest/api"
)

// One mild fault at each transfer in turn, and one at every transfer.
func TestMildFaultsAtEveryTransfer(t *testing.T) {
	for _, args := range commands() {
		want := follows(t, job(args...))
		var scripts []string
		for n := range want.Steps {
			at := strings.Repeat(".", n)
			scripts = append(scripts, at+"i", at+"1", at+"0", at+"iii2")
		}
		for _, signs := range append(scripts, strings.Repeat("i", 50), strings.Repeat("1", 500), strings.Repeat("i0i2", 300)) {
			r := follows(t, faulty(signs, args...))
			if string(r.Out) != string(want.Out) || string(r.Err) != string(want.Err) || r.Status != want.Status {
				t.Errorf("%q, faults %q: %v, not %v", args, signs, r, want)
			}
		}
	}
}

// A transfer that fails, each in turn: what was told is a beginning of what is told without faults, the status is not 0, and one line says it. Of one that says something (F3) nothing comes but that it is not said.
func TestFailuresAtEveryTransfer(t *testing.T) {
	words := map[string]string{"e": "input/output error", "s": "no space left", "p": "broken pipe"}
	for _, args := range commands() {
		want := run(t, job(args...))
		for n := range want.Steps {
			at := strings.Repeat(".", n)
			for sign, word := range words {
				for _, ahead := range []string{"", "1", "i", "2i"} {
					r := follows(t, faulty(at+ahead+sign, args...))
					if string(r.Out) == string(want.Out) {
						if r.Status != want.Status {
							t.Errorf("%q, faults %q: %d, not %d", args, at+ahead+sign, r.Status, want.Status)
						}
						continue
					}
					if last := args[0] + ": standard output: " + word + "\n"; !strings.HasPrefix(string(want.Out), string(r.Out)) || r.Status != 1 || string(r.Err) != string(want.Err)+last {
						t.Errorf("%q, faults %q: told %q, said %q, %d, not a beginning of %q, %q, 1", args, at+ahead+sign, r.Out, r.Err, r.Status, want.Out, string(want.Err)+last)
					}
				}
			}
		}
	}
}

func TestFaults(t *testing.T) {
	for _, c := range []struct {
		args, signs, out, errs string
		status                 int
	}{
		{"echo a b", "e", "", "echo: standard output: input/output error\n", 1},
		{"echo a b", "s", "", "echo: standard output: no space left\n", 1},
		{"echo a b", "p", "", "echo: standard output: broken pipe\n", 1},
		{"echo a b", "2s", "a ", "echo: standard output: no space left\n", 1},
		{"echo a b", "i3is", "a b", "echo: standard output: no space left\n", 1},
		{"echo a b", "1i2i", "a b\n", "", 0},
		{"echo a b", "se", "", "", 1},
		{"echo a b", "s3s", "", "ech", 1},
		{"true a", "s", "", "", 0},
		{"false a", "s", "", "", 1},
		{"basename a/b", "s", "", "basename: standard output: no space left\n", 1},
		{"basename a/b", "1s", "b", "basename: standard output: no space left\n", 1},
		{"dirname a/b", "p", "", "dirname: standard output: broken pipe\n", 1},
		{"dirname a/b", "1p", "a", "dirname: standard output: broken pipe\n", 1},
		{"basename", "s", "", "", 1},
		{"basename a b c", "3e", "", "bas", 1},
		{"printf %d,%s, 1 a 2 b", "s", "", "printf: standard output: no space left\n", 1},
		{"printf %d,%s, 1 a 2 b", "5s", "1,a,2", "printf: standard output: no space left\n", 1},
		{"printf %d,%s, 1 a 2 b", "5i", "1,a,2,b,", "", 0},
		// Lines of errors stand ahead of what is told; when one can't be said, the others are.
		{"printf %d, x 1 y", "", "0,1,0,", "printf: x: not a number\nprintf: y: not a number\n", 1},
		{"printf %d, x 1 y", "s", "0,1,0,", "printf: y: not a number\n", 1},
		{"printf %d, x 1 y", ".s", "0,1,0,", "printf: x: not a number\n", 1},
		{"printf %d, x 1 y", "ss", "0,1,0,", "", 1},
		{"printf %d, x 1 y", "3s", "0,1,0,", "priprintf: y: not a number\n", 1},
		{"printf %d, x 1 y", "..s", "", "printf: x: not a number\nprintf: y: not a number\nprintf: standard output: no space left\n", 1},
		{"printf %d, x 1 y", "..2s", "0,", "printf: x: not a number\nprintf: y: not a number\nprintf: standard output: no space left\n", 1},
		{"printf %d, x 1 y", "..ss", "", "printf: x: not a number\nprintf: y: not a number\n", 1},
		{"printf %", "s", "", "", 1},
		{"printf a%", "i", "", "printf: usage\n", 1},
	} {
		comes(t, faulty(c.signs, strings.Fields(c.args)...), c.out, c.errs, c.status)
		newRig(t, faulty(c.signs, strings.Fields(c.args)...)).ends(c.out, c.errs, c.status)
	}
}

// Descriptors 1 and 2 that can't be written to.
func TestDescriptors(t *testing.T) {
	for _, c := range []struct {
		args, errs string
		status     int
	}{
		{"echo", "echo: standard output: ", 1},
		{"echo a", "echo: standard output: ", 1},
		{"true", "", 0},
		{"false", "", 1},
		{"basename a", "basename: standard output: ", 1},
		{"dirname a", "dirname: standard output: ", 1},
		{"printf a", "printf: standard output: ", 1},
		{"printf %d x", "printf: x: not a number\nprintf: standard output: ", 1},
		// Nothing is told, so nothing can fail.
		{"printf %s", "", 0},
		{"printf %.0d 0", "", 0},
		{"printf %b \\c", "", 0},
		{"printf %.0d x", "printf: x: not a number\n", 1},
		{"printf %", "printf: usage\n", 1},
	} {
		args := strings.Fields(c.args)
		for word, put := range map[string]func(r *rig){
			"bad descriptor": func(r *rig) { r.put(r.in, 0) },
			"invalid":        func(r *rig) { r.put(r.in, r.in) },
		} {
			errs := c.errs
			if strings.HasSuffix(errs, ": ") {
				errs += word + "\n"
			}
			r := newRig(t, job(args...))
			put(r)
			r.ends("", errs, c.status)
		}
		// Nothing is said.
		want := run(t, job(args...))
		r := newRig(t, job(args...))
		r.put(r.in, r.out, 0)
		r.ends(string(want.Out), "", want.Status)
		// Neither.
		r = newRig(t, job(args...))
		r.put(r.in, 0, 0)
		r.ends("", "", c.status)
		// The descriptor 0 is not needed.
		r = newRig(t, job(args...))
		r.put(0)
		r.ends(string(want.Out), string(want.Err), want.Status)
	}
}

// A file that is full.
func TestFullFile(t *testing.T) {
	for _, c := range []struct {
		left int
		args []string
		out  string
		ok   bool
	}{
		{5, []string{"echo", "abcd"}, "abcd\n", true},
		{4, []string{"echo", "abcd"}, "abcd", false},
		{0, []string{"echo"}, "", false},
		{1, []string{"printf", "%03d", "7"}, "0", false},
		{3, []string{"printf", "%03d", "7"}, "007", true},
		{0, []string{"printf", "%s"}, "", true},
	} {
		j := job(c.args...)
		full := strings.Repeat("x", api.MaxData-c.left)
		j.Nodes = append(j.Nodes, file("/full", full))
		r := newRig(t, j)
		fd, e := r.p.Table().Open("", "/full", api.OpenAppend)
		if e != api.OK {
			t.Fatalf("Open: error %d", e)
		}
		r.p.Table().Dup(fd, 1)
		r.p.Table().Close(fd)
		errs, status := "", 0
		if !c.ok {
			errs, status = c.args[0]+": standard output: no space left\n", 1
		}
		r.ends("", errs, status)
		ino, _ := r.k.Tree().Find("", "/full")
		if got := string(r.k.Tree().Read(ino, 0, api.MaxData)); got != full+c.out {
			t.Errorf("%q, %d bytes left: told %q", c.args, c.left, strings.TrimPrefix(got, full))
		}
	}
}
