package merge_test

import (
	"strings"
	"testing"

	"toolchest/api"
)

// P14.4

// Whose failure is told first: the first input is opened and its first line is read ahead of the second one.
func TestWhichFailureIsToldFirst(t *testing.T) {
	const dir, noFile, longFirst, longSecond = ": d: is a directory\n", ": x: no such file\n", ": l: line too long\n", ": k: line too long\n"
	for _, name := range []string{"comm", "join"} {
		for _, c := range []struct{ operands, errs string }{
			{"x y", noFile + ": y: no such file\n"},
			{"y x", ": y: no such file\n" + noFile},
			{"d x", dir + noFile}, // it can be opened, but not read
			{"x d", noFile + dir},
			{"l x", longFirst + noFile},
			{"x l", noFile + longFirst},
			{"d l", dir + longFirst},
			{"l d", longFirst + dir},
			{"d d", dir + dir},
			{"l l", longFirst + longFirst},
			{"k d", dir + longSecond}, // its first line is read, the next one later
			{"k l", longFirst + longSecond},
			{"k x", noFile + longSecond},
			{"d k", dir + longSecond},
			{"x k", noFile + longSecond},
		} {
			for _, options := range []string{"", "-1 ", "-2 "} {
				if name == "join" {
					options = strings.ReplaceAll(options, "-", "-a")
				}
				j := job("q", name+" "+options+c.operands)
				want := strings.ReplaceAll("\n"+c.errs, "\n:", "\n"+name+":")[1:]
				if r := run(t, j); string(r.Err) != want || r.Status != 2 {
					t.Errorf("%q: said %q, %d, not %q", j.Args, r.Err, r.Status, want)
				}
			}
		}
	}
}

// When lines of both are taken, the next line of the first one is read first: its failure is told first. Of join all of its group is read ahead of the second one's.
func TestWhichInputIsReadFirst(t *testing.T) {
	const long = "123456789"
	for _, c := range []struct{ name, x, y, errs string }{
		{"comm", "a\n" + long, "a\n" + long, "x y"},
		{"comm", "a\nb\n" + long, "a\n" + long, "y x"},
		{"comm", "a\n" + long, "a\nb\n" + long, "x y"},
		{"comm", "a\nb\n" + long, "a\nb\n" + long, "x y"},
		{"comm", "a\na\n" + long, "a\n" + long, "y x"},
		{"comm", "b\n" + long, "a\n" + long, "y x"},
		{"comm", "a\n" + long, "b\n" + long, "x y"},
		{"join", "a\n" + long, "a\n" + long, "x y"},
		{"join", "a\na\na\n" + long, "a\n" + long, "x y"}, // all of its group
		{"join", "a\n" + long, "a\na\na\n" + long, "x y"},
		{"join", "a\na\nb\n" + long, "a\n" + long, "y x"},
		{"join", "a\nb\n" + long, "a\nb\n" + long, "x y"},
		{"join", "b\n" + long, "a\n" + long, "y x"},
		{"join", "a\n" + long, "b\n" + long, "x y"},
	} {
		want := ""
		for _, operand := range strings.Fields(c.errs) {
			want += c.name + ": " + operand + ": line too long\n"
		}
		for buf := 1; buf < 20; buf++ {
			j := two(c.x, c.y, c.name)
			j.Lim = lim(buf, 8)
			if r := run(t, j); string(r.Err) != want || r.Status != 2 {
				t.Errorf("%s, %q and %q, Buf %d: said %q, %d, not %q", c.name, c.x, c.y, buf, r.Err, r.Status, want)
			}
		}
	}
}

// callsOf are the signs of a job's steps: `o` of one that opens a file, `r` of one that reads, `w` of one that writes to the descriptor 1, `f` of one that writes to a file.
func callsOf(t *testing.T, j api.Job) string {
	t.Helper()
	j.Faults = make([]api.Fault, 1000) // which do nothing, but are counted
	r := newRig(t, j)
	m := r.start()
	seen := func() (open, used, told, size int) {
		for _, n := range r.k.Tree().Dump() {
			size += len(n.Data)
		}
		return len(r.p.Table().Fds()), r.k.Used(), len(r.k.Said(r.out)), size
	}
	signs := ""
	for done := false; !done; {
		open, used, told, size := seen()
		done = m.Step()
		openThen, usedThen, toldThen, sizeThen := seen()
		switch {
		case openThen > open:
			signs += "o"
		case toldThen > told:
			signs += "w"
		case sizeThen > size:
			signs += "f"
		case usedThen > used:
			signs += "r"
		default:
			signs += "?"
		}
	}
	return signs
}

// Which steps there are, with a buffer that holds all of an input: opening, reading (once more to find the end), telling; of the first input ahead of the second one.
func TestSteps(t *testing.T) {
	for _, c := range []struct{ x, y, args, signs string }{
		{"", "", "comm", "oror"},
		{"", "a\n", "comm", "ororwr"},
		{"a\n", "", "comm", "ororwr"},
		{"a\n", "a\n", "comm", "ororwrr"},
		{"a\n", "b\n", "comm", "ororwrwr"},
		{"b\n", "a\n", "comm", "ororwrwr"},
		{"a\n", "b\n", "comm -123", "ororrr"},
		{"", "", "join", "oror"},
		{"a\n", "a\n", "join", "ororrrw"},
		{"a\na\n", "a\na\n", "join", "ororrrwwww"},
		{"a\na\n", "a\na\n", "join -v 1", "ororrr"},
		{"a\n", "b\n", "join", "ororrr"},
		{"a\n", "b\n", "join -a 1 -a 2", "ororwrwr"},
	} {
		j := two(c.x, c.y, strings.Fields(c.args)...)
		j.Lim.Buf = 60
		if got := callsOf(t, j); got != c.signs {
			t.Errorf("%s, %q and %q: %q, not %q", c.args, c.x, c.y, got, c.signs)
		}
	}
	for _, c := range []struct{ in, args, signs string }{
		{"", "uniq", "r"},
		{"a", "uniq", "rrw"},
		{"a\na\nb\n", "uniq", "rwrw"},
		{"a\na\nb\n", "uniq -d", "rwr"},
		{"a\na\nb\n", "uniq - z", "orfrf"},
		{"q", "uniq d/g z", "oorrf"},
		{"q", "uniq e z", "oor"},
		{"a\n", "comm - e", "rorwr"},
		{"a\n", "comm e -", "orrwr"},
		{"a\n", "join -a 1 - e", "rorwr"},
		{"a\n", "join -a 2 e -", "orrwr"},
	} {
		j := job(c.in, c.args)
		j.Lim.Buf = 60
		if got := callsOf(t, j); got != c.signs {
			t.Errorf("%s, %q: %q, not %q", c.args, c.in, got, c.signs)
		}
	}
}
