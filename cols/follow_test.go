package cols_test

import (
	"math/rand"
	"reflect"
	"strings"
	"testing"

	"toolchest/api"
)

// chance makes jobs: always the same ones.
type chance struct{ *rand.Rand }

func chanceOf(seed int64) chance { return chance{rand.New(rand.NewSource(seed))} }

func (c chance) of(texts ...string) string { return texts[c.Intn(len(texts))] }

func (c chance) some(most int, texts ...string) string {
	var s string
	for range c.Intn(most + 1) {
		s += c.of(texts...)
	}
	return s
}

func (c chance) text(most int) string { return c.some(most, "a", "b", ":", "\t", "\n", "\n") }

const (
	mildSigns = ".i012345"
	allSigns  = mildSigns + "......esp"
)

func (c chance) faults(signs string, most int) []api.Fault {
	return faults(c.some(most, strings.Split(signs, "")...))
}

func (c chance) list() string {
	part := func() string {
		return c.of("1", "2", "3", "1-2", "2-3", "2-5", "4-", "3-", "-1", "-3", "2147483647", "0", "3-2")
	}
	if c.Intn(10) > 0 {
		part = func() string { return c.of("1", "2", "3", "1-2", "2-3", "2-5", "4-", "3-", "-1", "-3", "7-2147483647") }
	}
	list := part()
	for range c.Intn(3) {
		list += c.of(",", ",", " ", "\t") + part()
	}
	return list
}

// options are those of a utility; now and then such that may not be.
func (c chance) options() []string {
	if c.Intn(2) == 0 {
		return c.pasteOptions()
	}
	kind := c.of("-b", "-c", "-f", "-f")
	args := []string{"cut", kind, c.list()}
	if c.Intn(5) == 0 {
		args = append(args, kind+c.list())
	}
	if kind == "-f" || c.Intn(20) == 0 {
		args = append(args, strings.Fields(c.some(2, "-d: ", "-d : ", "-s ", "-sd: ", "-da "))...)
	}
	if kind == "-b" || c.Intn(20) == 0 {
		args = append(args, strings.Fields(c.some(1, "-n "))...)
	}
	if c.Intn(20) == 0 {
		args = append(args, c.of("-x", "-d::", "-b1", "-c1", "-f1"))
	}
	return args
}

func (c chance) pasteOptions() []string {
	args := []string{"paste"}
	if c.Intn(2) == 0 {
		args = append(args, c.of("-s", "-s", "-ss"))
	}
	for range c.Intn(3) {
		args = append(args, "-d", c.of(",")+c.some(3, ",", "-", "x", "\\", "n", "t", "0", "\n"))
	}
	if c.Intn(20) == 0 {
		args = append(args, c.of("-x", "-n"))
	}
	if c.Intn(20) == 0 {
		args = append(args, "-d", "")
	}
	return args
}

// job is one whose options and operands may be anything.
func (c chance) job() api.Job {
	args := append(c.options(), strings.Fields(c.some(4, "f ", "e ", "d/g ", "d ", "x ", "- ", "- ", "f ", "h "))...)
	j := jobOf(c.text(30), args...)
	j.Nodes[3].Data = []byte(c.text(20))
	j.Lim = lim(1+c.Intn(7), 1+c.Intn(9))
	return j
}

func TestAgainstAModel(t *testing.T) {
	c := chanceOf(1)
	failed := 0
	for range 40000 {
		j := c.job()
		failed += follows(t, j).Status
		j.Faults = c.faults(allSigns, 60)
		failed += follows(t, j).Status
	}
	if failed < 15000 || failed > 65000 {
		t.Errorf("%d have failed", failed)
	}
}

// A job that is stepped comes to what it comes to when it is run.
func TestSteppedJobs(t *testing.T) {
	c := chanceOf(2)
	for range 3000 {
		j := c.job()
		j.Faults = c.faults(allSigns, 40)
		want := run(t, j)
		if got := newRig(t, j).result(); !reflect.DeepEqual(got, want) {
			t.Errorf("%q, In %q, Lim %v, faults %v: %v, not %v", j.Args, j.In, j.Lim, j.Faults, got, want)
		}
	}
}

// P5.6: mild faults change nothing but how many steps it takes.
func TestMildFaults(t *testing.T) {
	c := chanceOf(3)
	for range 20000 {
		j := c.job()
		want := run(t, j)
		j.Faults = c.faults(mildSigns, 80)
		comes(t, j, string(want.Out), string(want.Err), want.Status)
	}
}

// commands are of every kind.
func commands() []string {
	return []string{
		"cut -b 2", "cut -nb 2-,1", "cut -c 1-2,4 f - x d", "cut -f 2 -d :", "cut -sf 1,3- -d: - h", "cut -b 1 k l", "cut -b 0",
		"paste", "paste - -", "paste - - -", "paste - f", "paste -d ,; f - e -", "paste e x d - k", "paste f h", "paste -d \\0 - e",
		"paste -s", "paste -s f - x d e h", "paste -sd \\n- -", "paste -s - -", "paste -s k l -", "paste -x",
	}
}

const someLines = "ab:cd\n\nef:g\n:\nj:k"

// One mild fault at each transfer in turn, and one at every transfer.
func TestMildFaultsAtEveryTransfer(t *testing.T) {
	for _, args := range commands() {
		for buf := 1; buf < 5; buf++ {
			j := job(someLines, args)
			j.Lim.Buf = buf
			want := run(t, j)
			var scripts []string
			for n := range want.Steps {
				at := strings.Repeat(".", n)
				scripts = append(scripts, at+"i", at+"1", at+"iii2")
			}
			for _, signs := range append(scripts, strings.Repeat("i", 500), strings.Repeat("1", 500), strings.Repeat("i0i2", 300)) {
				j.Faults = faults(signs)
				comes(t, j, string(want.Out), string(want.Err), want.Status)
			}
		}
	}
}

// P5.6: a transfer that fails, each in turn. If it is a Write to the descriptor 1, what was told is a beginning of the pure output; if it is a Read of the one input, it is the pure output of a beginning of that (but of `paste -s`, of which P9.3 says otherwise).
func TestFailuresAtEveryTransfer(t *testing.T) {
	for _, args := range commands() {
		for buf := 1; buf < 5; buf++ {
			pure := job(someLines, args)
			pure.Lim.Buf = buf
			want := run(t, pure)
			for n := range want.Steps {
				for _, sign := range []string{"e", "s", "p", "1e", "ee"} {
					j := pure
					j.Faults = faults(strings.Repeat(".", n) + sign)
					got := follows(t, j)
					told := string(got.Out)
					if (sign == "s" || sign == "p") && !strings.HasPrefix(string(want.Out), told) {
						t.Errorf("%s, Buf %d, faults %v: told %q, no beginning of %q", args, buf, j.Faults, told, want.Out)
					}
					if told != string(want.Out) && got.Status == 0 {
						t.Errorf("%s, Buf %d, faults %v: told %q, and the status is 0", args, buf, j.Faults, told)
					}
					if strings.HasSuffix(string(got.Err), ": -: input/output error\n") && readsOne(j) && !isOfABeginning(t, pure, told) {
						t.Errorf("%s, Buf %d, faults %v: told %q, of no beginning of the input", args, buf, j.Faults, told)
					}
				}
			}
		}
	}
}

// readsOne tells whether a job's one input is the descriptor 0, and what is told of it hangs on its lines alone.
func readsOne(j api.Job) bool {
	a := askedOf(j.Args)
	for _, operand := range a.operands {
		if operand != "-" {
			return false
		}
	}
	return !(a.name == "paste" && a.has("s"))
}

// isOfABeginning tells whether a job tells that of some beginning of its input.
func isOfABeginning(t *testing.T, j api.Job, told string) bool {
	whole := j.In
	for n := range len(whole) + 1 {
		j.In = whole[:n]
		if string(run(t, j).Out) == told {
			return true
		}
	}
	return false
}

// linesOf are a text's lines, each with a line feed.
func linesOf(s string) []string {
	var out []string
	for line := range strings.SplitAfterSeq(s, "\n") {
		if line != "" {
			out = append(out, strings.TrimSuffix(line, "\n")+"\n")
		}
	}
	return out
}

// P9.4: the bytes of a list, and of what it lacks, are together each line's.
func TestCutAndTheRest(t *testing.T) {
	c := chanceOf(4)
	for range 4000 {
		in := c.text(40)
		list, rest := "1", "2-"
		switch n := c.Intn(7) + 2; c.Intn(3) {
		case 0:
			list, rest = "-"+digit(n), digit(n+1)+"-"
		case 1:
			list, rest = digit(n), "-"+digit(n-1)+","+digit(n+1)+"-"
		case 2:
			list, rest = digit(n)+"-"+digit(n+1)+" 1", "2-"+digit(max(n-1, 2))+"\t"+digit(n+2)+"-"
			if n == 2 {
				rest = "4-"
			}
		}
		j := job(in, "")
		j.Lim = lim(1+c.Intn(9), 40)
		j.Faults = c.faults(mildSigns, 40)
		j.Args = []string{"cut", "-b", list}
		some := linesOf(string(run(t, j).Out))
		j.Args[2] = rest
		others := linesOf(string(run(t, j).Out))
		lines := linesOf(in)
		if len(some) != len(lines) || len(others) != len(lines) {
			t.Fatalf("%q, %q and %q: %d, %d lines", in, list, rest, len(some), len(others))
		}
		for i, line := range lines {
			if got := together(line, some[i], others[i], spansOf(list)); got != line {
				t.Errorf("%q, %q and %q: %q and %q are %q", line, list, rest, some[i], others[i], got)
			}
		}
	}
}

func digit(n int) string { return string(rune('0'+n/10)) + string(rune('0'+n%10)) }

// together lays two lines' bytes to where they stood in a line, by the spans of the first one's.
func together(line, some, others string, spans [][2]int) string {
	var out string
	for i := range len(strings.TrimSuffix(line, "\n")) {
		from := &others
		for _, span := range spans {
			if span[0] <= i+1 && i+1 <= span[1] {
				from = &some
			}
		}
		if *from == "\n" {
			return out
		}
		out, *from = out+(*from)[:1], (*from)[1:]
	}
	if some == "\n" && others == "\n" {
		out += "\n"
	}
	return out
}

// P9.4: what was pasted of two inputs is cut into them, if there is no sign of the list in the first one.
func TestPasteAndCut(t *testing.T) {
	c := chanceOf(5)
	for range 4000 {
		first, second := c.some(20, "a", "b", "\n"), c.some(20, "a", ",", ":", "\n")
		sign := c.of(",", ":", ";", "\t", " ")
		j := jobOf(first, "paste", "-d", sign, "-", "f")
		j.Nodes[3].Data = []byte(second)
		j.Lim = lim(1+c.Intn(9), 50)
		j.Faults = c.faults(mildSigns, 40)
		j.In = run(t, j).Out
		rows := max(len(linesOf(first)), len(linesOf(second)))
		for i, in := range []string{first, second} {
			j.Args = []string{"cut", "-d", sign, "-f", []string{"1", "2-"}[i]}
			want := strings.Join(linesOf(in), "") + strings.Repeat("\n", rows-len(linesOf(in)))
			comes(t, j, want, "", 0)
		}
	}
}
