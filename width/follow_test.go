package width_test

import (
	"math/rand"
	"reflect"
	"strings"
	"testing"

	"toolchest/api"
)

// chance makes jobs: always the same ones.
type chance struct{ *rand.Rand }

func chanceOf(seed int64) chance { return chance{rand.New(rand.NewSource(seed))} }

func (c chance) of(texts ...string) string { return texts[c.Intn(len(texts))] }

func (c chance) some(most int, texts ...string) string {
	var s string
	for range c.Intn(most + 1) {
		s += c.of(texts...)
	}
	return s
}

func (c chance) text(most int) string {
	return c.some(most, "a", "b", "c", " ", " ", "  ", "    ", "\t", "\t", "\n", "\n", "\b", "\r", "\x00", "\xff")
}

const (
	mildSigns = ".i012345"
	allSigns  = mildSigns + "......esp"
)

func (c chance) faults(signs string, most int) []api.Fault {
	return faults(c.some(most, strings.Split(signs, "")...))
}

func (c chance) list() string {
	return c.of("1", "2", "3", "4", "8", "17", "1,2", "2,5", "3 7", "2\t4 6,11", "1,100")
}

// wrong is now and then an argument that may not be, of a letter that has one, or of none.
func (c chance) wrong(letters ...string) []string {
	if c.Intn(25) > 0 {
		return nil
	}
	return []string{"-" + c.of(letters...), c.of("", "0", "x", "-1", "2147483648", "1,1", ",")}
}

// options are those of a utility; now and then such that may not be.
func (c chance) options() []string {
	switch name := c.of(names()...); name {
	case "fold":
		args := append([]string{name}, strings.Fields(c.some(3, "-b ", "-s ", "-s ", "-bs ", "-w 1 ", "-w3 ", "-sw 5 ", "-w 8 ", "-w 9 ", "-bw7 "))...)
		return append(args, c.wrong("w", "w", "t", "x")...)
	case "nl":
		args := append([]string{name}, strings.Fields(c.some(4, "-b a ", "-bt ", "-b n ", "-v 0 ", "-v9 ", "-v 2147483647 ", "-i 0 ", "-i5 ", "-w 1 ", "-w3 ", "-s : ", "-sxyz ", "-n rz ", "-nln ", "-n rn "))...)
		if c.Intn(6) == 0 {
			args = append(args, "-s", "")
		}
		return append(args, c.wrong("b", "v", "i", "w", "n", "x")...)
	default:
		args := []string{name}
		for range c.Intn(3) {
			args = append(args, "-t", c.list())
		}
		if name == "unexpand" {
			args = append(args, strings.Fields(c.some(1, "-a ", "-aa "))...)
		}
		return append(args, c.wrong("t", "t", "a", "x")...)
	}
}

// job is one whose options and operands may be anything.
func (c chance) job() api.Job {
	args := c.options()
	most := 4
	if args[0] == "nl" {
		most = 1 + c.Intn(2)
	}
	if c.Intn(3) == 0 {
		args = append(args, "--")
	}
	args = append(args, strings.Fields(c.some(most, "f ", "e ", "d/g ", "d ", "x ", "- ", "- ", "f ", "h "))...)
	j := jobOf(c.text(30), args...)
	j.Nodes[3].Data = []byte(c.text(20))
	j.Lim = lim(1+c.Intn(7), 1+c.Intn(24))
	return j
}

func TestAgainstAModel(t *testing.T) {
	c := chanceOf(1)
	failed := 0
	for range 40000 {
		j := c.job()
		failed += follows(t, j).Status
		j.Faults = c.faults(allSigns, 60)
		failed += follows(t, j).Status
	}
	if failed < 15000 || failed > 65000 {
		t.Errorf("%d have failed", failed)
	}
}

// A job that is stepped comes to what it comes to when it is run.
func TestSteppedJobs(t *testing.T) {
	c := chanceOf(2)
	for range 3000 {
		j := c.job()
		j.Faults = c.faults(allSigns, 40)
		want := run(t, j)
		if got := newRig(t, j).result(); !reflect.DeepEqual(got, want) {
			t.Errorf("%q, In %q, Lim %v, faults %v: %v, not %v", j.Args, j.In, j.Lim, j.Faults, got, want)
		}
	}
}

// P5.6: mild faults change nothing but how many steps it takes.
func TestMildFaults(t *testing.T) {
	c := chanceOf(3)
	for range 20000 {
		j := c.job()
		want := run(t, j)
		j.Faults = c.faults(mildSigns, 80)
		comes(t, j, string(want.Out), string(want.Err), want.Status)
	}
}

// commands are of every kind.
func commands() []string {
	return []string{
		"fold", "fold -w 2", "fold -b -w 2", "fold -s -w 3 -", "fold -bsw 3 f - x d", "fold -w 1 k l -", "fold -w 0",
		"expand", "expand -t 3", "expand -t 2,3", "expand -t 1 h - x d", "expand k l", "expand -t 0",
		"unexpand", "unexpand -a", "unexpand -t 2", "unexpand -at 2,3 h - x d", "unexpand k l", "unexpand -t x",
		"nl", "nl -ba -w 1", "nl -bn -s :", "nl -nrz -v 9 -", "nl -nln h", "nl x", "nl k", "nl l", "nl f h",
	}
}

const someLines = "ab\tcd\n\n  ef g\n\t \n    j"

// One mild fault at each transfer in turn, and one at every transfer.
func TestMildFaultsAtEveryTransfer(t *testing.T) {
	for _, args := range commands() {
		for buf := 1; buf < 5; buf++ {
			j := job(someLines, args)
			j.Lim.Buf = buf
			want := run(t, j)
			var scripts []string
			for n := range want.Steps {
				at := strings.Repeat(".", n)
				scripts = append(scripts, at+"i", at+"1", at+"iii2")
			}
			for _, signs := range append(scripts, strings.Repeat("i", 500), strings.Repeat("1", 500), strings.Repeat("i0i2", 300)) {
				j.Faults = faults(signs)
				comes(t, j, string(want.Out), string(want.Err), want.Status)
			}
		}
	}
}

// P5.6: a transfer that fails, each in turn. If it is a Write to the descriptor 1, what was told is a beginning of the pure output; if it is a Read of the one input, it is the pure output of a beginning of that.
func TestFailuresAtEveryTransfer(t *testing.T) {
	for _, args := range commands() {
		for buf := 1; buf < 5; buf++ {
			pure := job(someLines, args)
			pure.Lim.Buf = buf
			want := run(t, pure)
			for n := range want.Steps {
				for _, sign := range []string{"e", "s", "p", "1e", "ee"} {
					j := pure
					j.Faults = faults(strings.Repeat(".", n) + sign)
					got := follows(t, j)
					told := string(got.Out)
					if (sign == "s" || sign == "p") && !strings.HasPrefix(string(want.Out), told) {
						t.Errorf("%s, Buf %d, faults %v: told %q, no beginning of %q", args, buf, j.Faults, told, want.Out)
					}
					if told != string(want.Out) && got.Status == 0 {
						t.Errorf("%s, Buf %d, faults %v: told %q, and the status is 0", args, buf, j.Faults, told)
					}
					if strings.HasSuffix(string(got.Err), ": -: input/output error\n") && readsOne(j) && !isOfABeginning(t, pure, told) {
						t.Errorf("%s, Buf %d, faults %v: told %q, of no beginning of the input", args, buf, j.Faults, told)
					}
				}
			}
		}
	}
}

// readsOne tells whether a job's one input is the descriptor 0.
func readsOne(j api.Job) bool {
	inputs := askedOf(j.Args).inputs()
	return len(inputs) == 1 && inputs[0] == "-"
}

// isOfABeginning tells whether a job tells that of some beginning of its input.
func isOfABeginning(t *testing.T, j api.Job, told string) bool {
	whole := j.In
	for n := range len(whole) + 1 {
		j.In = whole[:n]
		if string(run(t, j).Out) == told {
			return true
		}
	}
	return false
}

// lined is a job with long enough lines under mild faults.
func (c chance) lined(in string, args ...string) api.Job {
	j := jobOf(in, args...)
	j.Lim = lim(1+c.Intn(50), 3000)
	j.Faults = c.faults(mildSigns, 20)
	return j
}

// P11.6: without the line feeds that fold made, what it tells is the input; no line of it is wider than N, but for one byte.
func TestWhatWasFolded(t *testing.T) {
	c := chanceOf(4)
	for range 10000 {
		in := c.text(60)
		n := 1 + c.Intn(20)
		options := c.of("-w", "-bw", "-sw", "-bsw")
		folded := string(run(t, c.lined(in, "fold", options, digits(n))).Out)
		if joined, ok := unfolded(folded, in); !ok {
			t.Errorf("%s %d, In %q: %q is %q without what was made", options, n, in, folded, joined)
		}
		for _, segment := range strings.Split(folded, "\n") {
			if len(segment) > 1 && widthOf(segment, strings.Contains(options, "b")) > n {
				t.Errorf("%s %d, In %q: %q is wider", options, n, in, segment)
			}
		}
	}
}

// unfolded takes out the line feeds that a text has not where it stands, and tells whether it is that text then.
func unfolded(folded, text string) (string, bool) {
	var out []byte
	for i := range len(folded) {
		isMade := folded[i] == '\n' && (len(out) == len(text) || text[len(out)] != '\n')
		if !isMade {
			out = append(out, folded[i])
		}
	}
	return string(out), string(out) == text
}

// Folded lines are folded no more.
func TestFoldedTwice(t *testing.T) {
	c := chanceOf(5)
	for range 5000 {
		args := []string{"fold", c.of("-w", "-bw", "-sw", "-bsw"), digits(1 + c.Intn(20))}
		once := string(run(t, c.lined(c.text(60), args...)).Out)
		comes(t, c.lined(once, args...), once, "", 0)
	}
}

// P11.6: what was expanded has no tab; what was unexpanded, and then expanded, is the input expanded, if it has no backspace.
func TestWhatWasExpanded(t *testing.T) {
	c := chanceOf(6)
	for range 10000 {
		in := strings.ReplaceAll(c.text(60), "\b", "")
		list := c.list()
		isThere := c.Intn(4) > 0
		arguments := func(args ...string) []string {
			if isThere {
				return append(args, "-t", list)
			}
			return args
		}
		expanded := string(run(t, c.lined(in, arguments("expand")...)).Out)
		if strings.Contains(expanded, "\t") {
			t.Errorf("%v, In %q: %q has a tab", arguments(), in, expanded)
		}
		unexpand := arguments("unexpand")
		if c.Intn(2) == 0 {
			unexpand = append(unexpand, "-a")
		}
		for _, text := range []string{in, expanded} {
			unexpanded := run(t, c.lined(text, unexpand...)).Out
			comes(t, c.lined(string(unexpanded), arguments("expand")...), expanded, "", 0)
			if len(unexpanded) > len(text) {
				t.Errorf("%q, In %q: %q is longer", unexpand, text, unexpanded)
			}
		}
	}
}

// What nl puts ahead of lines can be cut off again.
func TestWhatWasNumbered(t *testing.T) {
	c := chanceOf(7)
	for range 5000 {
		in := c.text(60)
		kind, format := c.of("t", "a", "n"), c.of("rn", "rz", "ln")
		place, separator := 3+c.Intn(90), c.of("", "\t", ":", "abc")
		j := c.lined(in, "nl", "-b", kind, "-n", format, "-w", digits(place), "-s", separator)
		var out string
		for _, line := range strings.SplitAfter(string(run(t, j).Out), "\n") {
			out += line[min(len(line), place+len(separator)):]
		}
		if out != in {
			t.Errorf("%q, In %q: %q without what stands ahead", j.Args, in, out)
		}
	}
}
