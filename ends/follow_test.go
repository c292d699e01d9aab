package ends_test

import (
	"math/rand"
	"reflect"
	"strconv"
	"strings"
	"testing"

	"toolchest/api"
)

// chance makes jobs: always the same ones.
type chance struct{ *rand.Rand }

func chanceOf(seed int64) chance { return chance{rand.New(rand.NewSource(seed))} }

func (c chance) of(texts ...string) string { return texts[c.Intn(len(texts))] }

func (c chance) some(most int, texts ...string) string {
	var s string
	for range c.Intn(most + 1) {
		s += c.of(texts...)
	}
	return s
}

func (c chance) text(most int) string { return c.some(most, "a", "b", "c", "\n", "\n") }

const (
	mildSigns = ".i012345"
	allSigns  = mildSigns + "......esp"
)

func (c chance) faults(signs string, most int) []api.Fault {
	return faults(c.some(most, strings.Split(signs, "")...))
}

// job is one whose options and operands may be anything.
func (c chance) job() api.Job {
	args := "tail " + c.of("", "", "-n", "-n ", "-n +", "-n -", "-c", "-c ", "-c +", "-c-")
	if strings.ContainsAny(args, "nc") {
		args += c.of("0", "1", "2", "3", "5", "007", "40", "2147483647")
	}
	operands := 1
	if c.Intn(2) == 0 {
		args = "head " + c.of("", "-n 1", "-n2", "-n 3 --", "-n 7 -n 2", "-n 40", "-n 2147483647")
		operands = 4
	}
	if c.Intn(30) == 0 {
		args += c.of(" -n 0", " -n x", " -c 1", " -c +2", " -z", " -n 2147483648", " f e")
	}
	j := job(c.text(30), args+c.some(operands, " f", " e", " d/g", " d", " x", " -", " f", " t"))
	j.Nodes[3].Data = []byte(c.text(20))
	j.Lim = lim(1+c.Intn(7), 1+c.Intn(9))
	return j
}

func TestAgainstAModel(t *testing.T) {
	c := chanceOf(1)
	failed := 0
	for range 40000 {
		j := c.job()
		failed += follows(t, j).Status
		j.Faults = c.faults(allSigns, 60)
		failed += follows(t, j).Status
	}
	if failed < 15000 || failed > 65000 {
		t.Errorf("%d have failed", failed)
	}
}

// A job that is stepped comes to what it comes to when it is run.
func TestSteppedJobs(t *testing.T) {
	c := chanceOf(2)
	for range 3000 {
		j := c.job()
		j.Faults = c.faults(allSigns, 40)
		want := run(t, j)
		if got := newRig(t, j).result(); !reflect.DeepEqual(got, want) {
			t.Errorf("%q, In %q, Lim %v, faults %v: %v, not %v", j.Args, j.In, j.Lim, j.Faults, got, want)
		}
	}
}

// P5.6: mild faults change nothing but how many steps it takes.
func TestMildFaults(t *testing.T) {
	c := chanceOf(3)
	for range 20000 {
		j := c.job()
		want := run(t, j)
		j.Faults = c.faults(mildSigns, 80)
		comes(t, j, string(want.Out), string(want.Err), want.Status)
	}
}

// commands are of every kind.
func commands() []string {
	return []string{
		"head", "head -n 2", "head -n 3 f", "head -n 1 f - x d t e",
		"tail", "tail -n 2", "tail -n +2 f", "tail -c 5", "tail -c +4", "tail -c 0", "tail -n 0", "tail -n 3 t", "tail x", "tail -n 1 d", "tail -n x",
	}
}

const someLines = "ab cd\n\nefg h\ni\njk"

// One mild fault at each transfer in turn, and one at every transfer.
func TestMildFaultsAtEveryTransfer(t *testing.T) {
	for _, args := range commands() {
		for buf := 1; buf < 5; buf++ {
			j := job(someLines, args)
			j.Lim.Buf = buf
			want := run(t, j)
			var scripts []string
			for n := range want.Steps {
				at := strings.Repeat(".", n)
				scripts = append(scripts, at+"i", at+"1", at+"iii2")
			}
			for _, signs := range append(scripts, strings.Repeat("i", 500), strings.Repeat("1", 500), strings.Repeat("i0i2", 300)) {
				j.Faults = faults(signs)
				comes(t, j, string(want.Out), string(want.Err), want.Status)
			}
		}
	}
}

// P5.6: a transfer that fails, each in turn. If it is a Write to the descriptor 1, what was told is a beginning of the pure output; if it is a Read of the one input, it is the pure output of a beginning of that.
func TestFailuresAtEveryTransfer(t *testing.T) {
	for _, args := range commands() {
		for buf := 1; buf < 5; buf++ {
			pure := job(someLines, args)
			pure.Lim.Buf = buf
			want := run(t, pure)
			for n := range want.Steps {
				for _, sign := range []string{"e", "s", "p", "1e", "ee"} {
					j := pure
					j.Faults = faults(strings.Repeat(".", n) + sign)
					got := follows(t, j)
					isWrites := sign == "s" || sign == "p"
					told := string(got.Out)
					if isWrites && !strings.HasPrefix(string(want.Out), told) {
						t.Errorf("%s, Buf %d, faults %v: told %q, no beginning of %q", args, buf, j.Faults, told, want.Out)
					}
					if told != string(want.Out) && got.Status == 0 {
						t.Errorf("%s, Buf %d, faults %v: told %q, and the status is 0", args, buf, j.Faults, told)
					}
					if strings.HasSuffix(string(got.Err), ": -: input/output error\n") && len(askedOf(j.Args).operands) == 0 && !isOfABeginning(t, pure, told) {
						t.Errorf("%s, Buf %d, faults %v: told %q, of no beginning of the input", args, buf, j.Faults, told)
					}
				}
			}
		}
	}
}

// isOfABeginning tells whether a job tells that of some beginning of its input.
func isOfABeginning(t *testing.T, j api.Job, told string) bool {
	whole := j.In
	for n := range len(whole) + 1 {
		j.In = whole[:n]
		if string(run(t, j).Out) == told {
			return true
		}
	}
	return false
}

// P8.3
func TestHeadAndTheRest(t *testing.T) {
	c := chanceOf(4)
	for range 3000 {
		in := c.text(40)
		n := 1 + c.Intn(12)
		j := job(in, "head -n "+strconv.Itoa(n))
		j.Lim = lim(1+c.Intn(9), 1)
		j.Faults = c.faults(mildSigns, 40)
		first := string(run(t, j).Out)
		j.Args = []string{"tail", "-n", "+" + strconv.Itoa(n+1)}
		rest := string(run(t, j).Out)
		if first+rest != in {
			t.Errorf("%q, %d lines, Lim %v, faults %v: %q and %q", in, n, j.Lim, j.Faults, first, rest)
		}
		if lines := strings.SplitAfter(in, "\n"); first != strings.Join(lines[:min(n, len(lines))], "") {
			t.Errorf("%q, %d lines: %q", in, n, first)
		}
	}
}

// What stands ahead of the last lines or bytes, and these, are the input.
func TestTailAndTheRest(t *testing.T) {
	c := chanceOf(5)
	for range 3000 {
		in := c.text(40)
		n := c.Intn(12)
		j := job(in, "")
		j.Lim = lim(1+c.Intn(9), 50)
		j.Faults = c.faults(mildSigns, 40)
		j.Args = []string{"tail", "-c", strconv.Itoa(n)}
		comes(t, j, in[max(0, len(in)-n):], "", 0)
		j.Args[2] = "+" + strconv.Itoa(max(0, len(in)-n)+1)
		comes(t, j, in[max(0, len(in)-n):], "", 0)
		feeds := strings.Count(strings.TrimSuffix(in, "\n"), "\n")
		j.Args = []string{"tail", "-n", strconv.Itoa(n + 1)}
		want := string(run(t, j).Out)
		j.Args[2] = "+" + strconv.Itoa(max(0, feeds-n)+1)
		comes(t, j, want, "", 0)
	}
}
