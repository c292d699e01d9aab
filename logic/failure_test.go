package logic_test

import (
	"strings"
	"testing"

	"toolchest/api"
)

// commands are of every kind.
func commands() [][]string {
	return [][]string{
		{"test"}, {"test", "a"}, {"test", ""}, {"test", "!", "a"}, {"test", "-e", "f"}, {"test", "!", "-s", "nof"}, {"test", "(", "-d", "d", ")"},
		{"test", "a", "=", "b"}, {"test", "2", "-lt", "10"}, {"test", "x", "-eq", "y"}, {"test", "!", "1", "-ne", ""}, {"test", "a", "b"}, {"test", "1", "2", "3", "4", "5"},
		{"["}, {"[", "]"}, {"[", "-n", "]", "]"}, {"[", "-x", "i", "]"}, {"[", "3", "-gt", "-4", "]"}, {"[", "3", "-gt", "x", "]"}, {"[", "a"},
		{"expr"}, {"expr", "0"}, {"expr", ""}, {"expr", "some text"}, {"expr", "1", "+", "2", "*", "3"}, {"expr", "abc", ":", "ab*"}, {"expr", "1", "/", "0"}, {"expr", "0", "|", ""},
		{"expr", "(", "12345", ")", "-", "54321"}, {"expr", "a", "+", "b"}, {"expr", "", "+", "1"}, {"expr", "x", ":", "["}, {"expr", "1", "+"}, {"expr", "2", ">", "10"},
	}
}

// One mild fault at each transfer in turn, and one at every transfer.
func TestMildFaultsAtEveryTransfer(t *testing.T) {
	for _, args := range commands() {
		want := follows(t, jobOf(args...))
		var scripts []string
		for n := range want.Steps {
			at := strings.Repeat(".", n)
			scripts = append(scripts, at+"i", at+"1", at+"0", at+"iii2")
		}
		for _, signs := range append(scripts, strings.Repeat("i", 50), strings.Repeat("1", 500), strings.Repeat("i0i2", 300)) {
			j := jobOf(args...)
			j.Faults = faults(signs)
			r := follows(t, j)
			if string(r.Out) != string(want.Out) || string(r.Err) != string(want.Err) || r.Status != want.Status {
				t.Errorf("%q, faults %q: %v, not %v", args, signs, r, want)
			}
		}
	}
}

// The transfer that fails, with others ahead of it: what was told is a beginning of what is told without faults, the status is 3, and one line says it. Of one that says something (F3) nothing comes but that it is not said.
func TestFailures(t *testing.T) {
	words := map[string]string{"e": "input/output error", "s": "no space left", "p": "broken pipe"}
	told := 0
	for _, args := range commands() {
		want := run(t, jobOf(args...))
		for sign, word := range words {
			for _, ahead := range []string{"", "1", "i", "2i", "i1i1"} {
				j := jobOf(args...)
				j.Faults = faults(ahead + sign)
				r := follows(t, j)
				if string(r.Out) == string(want.Out) {
					if r.Status != want.Status {
						t.Errorf("%q, faults %q: %d, not %d", args, ahead+sign, r.Status, want.Status)
					}
					continue
				}
				told++
				if line := "expr: standard output: " + word + "\n"; !strings.HasPrefix(string(want.Out), string(r.Out)) || r.Status != 3 || string(r.Err) != line {
					t.Errorf("%q, faults %q: told %q, said %q, %d, not a beginning of %q, %q, 3", args, ahead+sign, r.Out, r.Err, r.Status, want.Out, line)
				}
			}
		}
	}
	if told < 60 {
		t.Errorf("%d times something was not told", told)
	}
}

func TestFaults(t *testing.T) {
	for _, c := range []struct {
		args, signs, out, errs string
		status                 int
	}{
		{"expr 1 + 2", "e", "", "expr: standard output: input/output error\n", 3},
		{"expr 1 + 2", "s", "", "expr: standard output: no space left\n", 3},
		{"expr 1 + 2", "p", "", "expr: standard output: broken pipe\n", 3},
		{"expr 1 + 2", "1s", "3", "expr: standard output: no space left\n", 3},
		{"expr 1 + 2", "i1ie", "3", "expr: standard output: input/output error\n", 3},
		{"expr 1 + 2", "ii1i", "3\n", "", 0},
		{"expr 1 + 2", "ss", "", "", 3},
		{"expr 1 + 2", "s5s", "", "expr:", 3},
		{"expr 12 * 34", "2e", "40", "expr: standard output: input/output error\n", 3},
		// A null value that can't be told.
		{"expr 0", "", "0\n", "", 1},
		{"expr 0", "s", "", "expr: standard output: no space left\n", 3},
		{"expr ", "e", "", "expr: standard output: input/output error\n", 3},
		{"expr ", "i", "\n", "", 1},
		{"expr 1 - 1", "1p", "0", "expr: standard output: broken pipe\n", 3},
		// What can't be said.
		{"expr a + 1", "s", "", "", 2},
		{"expr a + 1", "4e", "", "expr", 2},
		{"expr a + 1", "i4i", "", "expr: a: not a number\n", 2},
		{"expr 1 +", "p", "", "", 2},
		{"expr", "e", "", "", 2},
		{"test x -eq 1", "s", "", "", 2},
		{"test ! x -eq 1", "2s", "", "te", 2},
		{"test a b", "e", "", "", 2},
		{"[ a b", "e", "", "", 2},
		{"[ a b", "1i2", "", "[: usage\n", 2},
		// Where nothing is written nothing can fail.
		{"test a", "s", "", "", 0},
		{"test ", "e", "", "", 1},
		{"test -e f", "e", "", "", 0},
		{"[ -e nof ]", "p", "", "", 1},
		{"[ 1 -gt 2 ]", "s", "", "", 1},
	} {
		comes(t, faulty(c.signs, c.args), c.out, c.errs, c.status)
		newRig(t, faulty(c.signs, c.args)).ends(c.out, c.errs, c.status)
	}
}

// Descriptors 1 and 2 that can't be written to.
func TestDescriptors(t *testing.T) {
	for _, args := range commands() {
		want := run(t, jobOf(args...))
		errs, status := string(want.Err), want.Status
		for word, put := range map[string]func(r *rig){
			"bad descriptor": func(r *rig) { r.put(r.in, 0) },
			"invalid":        func(r *rig) { r.put(r.in, r.in) },
		} {
			if len(want.Out) > 0 {
				errs, status = "expr: standard output: "+word+"\n", 3
			}
			r := newRig(t, jobOf(args...))
			put(r)
			r.ends("", errs, status)
		}
		// Nothing is said.
		r := newRig(t, jobOf(args...))
		r.put(r.in, r.out, 0)
		r.ends(string(want.Out), "", want.Status)
		// Neither.
		r = newRig(t, jobOf(args...))
		r.put(r.in, 0, 0)
		r.ends("", "", status)
		// The descriptor 0 is not needed.
		r = newRig(t, jobOf(args...))
		r.put(0)
		r.ends(string(want.Out), string(want.Err), want.Status)
	}
}

// A file that is full.
func TestFullFile(t *testing.T) {
	for _, c := range []struct {
		left      int
		args, out string
		status    int
	}{
		{3, "expr 6 * 7", "42\n", 0},
		{2, "expr 6 * 7", "42", 3},
		{0, "expr 6 * 7", "", 3},
		{1, "expr 0", "0", 3},
		{2, "expr 0", "0\n", 1},
		{0, "expr ", "", 3},
		{0, "test a", "", 0},
		{0, "[ ]", "", 1},
	} {
		j := job(c.args)
		full := strings.Repeat("x", api.MaxData-c.left)
		j.Nodes = append(j.Nodes, file("/full", full, 0o600))
		r := newRig(t, j)
		fd, e := r.p.Table().Open("", "/full", api.OpenAppend)
		if e != api.OK {
			t.Fatalf("Open: error %d", e)
		}
		r.p.Table().Dup(fd, 1)
		r.p.Table().Close(fd)
		errs := ""
		if c.status == 3 {
			errs = "expr: standard output: no space left\n"
		}
		r.ends("", errs, c.status)
		ino, _ := r.k.Tree().Find("", "/full")
		if got := string(r.k.Tree().Read(ino, 0, api.MaxData)); got != full+c.out {
			t.Errorf("%q, %d bytes left: told %q", c.args, c.left, strings.TrimPrefix(got, full))
		}
	}
}
