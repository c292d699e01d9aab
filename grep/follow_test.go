package grep_test

import (
	"reflect"
	"slices"
	"strconv"
	"strings"
	"testing"

	"toolchest/api"
)

func TestAgainstAModel(t *testing.T) {
	c := chanceOf(1)
	statuses, told := map[int]int{}, 0
	for range 30000 {
		j := c.job()
		for range 2 {
			r := follows(t, j)
			statuses[r.Status]++
			if len(r.Out) > 0 {
				told++
			}
			j.Faults = c.faults(allSigns, 60)
		}
	}
	if min(statuses[0], statuses[1], statuses[2]) < 5000 || told < 10000 {
		t.Errorf("the statuses %v, %d have told something", statuses, told)
	}
}

// R1: whatever it is given, it ends by itself.
func TestAnyArguments(t *testing.T) {
	c := chanceOf(6)
	pieces := []string{"-", "-", "e", "f", "E", "F", "c", "l", "q", "i", "n", "s", "v", "x", "a", "[", "]", "(", ")", "{", "}", "1", ",", "*", "\\", "|", "^", "$", ".", "\n", "\xff", "\x00", ":", "255"}
	statuses := map[int]int{}
	for range 20000 {
		args := []string{"grep"}
		for range c.Intn(6) {
			args = append(args, c.some(5, pieces...))
		}
		j := jobOf(c.some(30, pieces...), args...)
		j.Lim = lim(1+c.Intn(7), 1+c.Intn(40))
		j.Faults = c.faults(allSigns, 10)
		r := run(t, j)
		if r.Status < 0 || r.Status > 2 { // a panic would have killed it
			t.Errorf("%q, In %q: %d", args, j.In, r.Status)
			continue
		}
		within(t, j, r)
		statuses[r.Status]++
	}
	if min(statuses[0], statuses[1], statuses[2]) < 300 {
		t.Errorf("the statuses are %v", statuses)
	}
}

// Mild faults change nothing but how many steps it takes.
func TestMildFaults(t *testing.T) {
	c := chanceOf(2)
	for range 20000 {
		j := c.job()
		want := run(t, j)
		j.Faults = c.faults(mildSigns, 80)
		comesLike(t, j, want)
	}
}

// comesLike fails, if a job comes to something else than it came to without faults, or needs more steps than that and the faults.
func comesLike(t *testing.T, j api.Job, want api.Result) {
	t.Helper()
	if r := comes(t, j, string(want.Out), string(want.Err), want.Status); r.Steps > want.Steps+r.Used {
		t.Errorf("%q, In %q, Lim %v, faults %q: %d steps, %d without faults", j.Args, j.In, j.Lim, signsOf(j.Faults), r.Steps, want.Steps)
	}
}

// A job that is stepped comes to what it comes to when it is run (R5: whoever goes through it, and how often).
func TestSteppedJobs(t *testing.T) {
	c := chanceOf(3)
	for range 4000 {
		j := c.job()
		j.Faults = c.faults(allSigns, 40)
		want := run(t, j)
		if got := newRig(t, j).result(); !reflect.DeepEqual(got, want) {
			t.Errorf("%q, In %q, Lim %v, faults %q: %v, not %v", j.Args, j.In, j.Lim, signsOf(j.Faults), got, want)
		}
		if again := run(t, j); !reflect.DeepEqual(again, want) {
			t.Errorf("%q, In %q, Lim %v, faults %q: %v, not %v", j.Args, j.In, j.Lim, signsOf(j.Faults), again, want)
		}
	}
}

// commands are of every kind.
func commands() []string {
	return []string{
		"grep a", "grep -n b", "grep -c a", "grep -l a", "grep -q b", "grep -v a", "grep -cv b", "grep -lv a", "grep -qv .", "grep -x a",
		"grep b f h", "grep -n b - f", "grep -c b f - e", "grep -l b e f h -", "grep -q b e h x", "grep -v b k l h", "grep -s b x k f", "grep -qs b x k", "grep -cs a k f l -", "grep -ls a l k", "grep -l a l k",
		"grep -f ab", "grep -f ab -f cut f", "grep -f none -e a h f", "grep -f - h", "grep -nf - -", "grep -f k f", "grep -sf l f", "grep -f x", "grep -f wrong f", "grep -e [ -f d f", "grep -F -f wrong -", "grep -Ei -e a|B h -", "grep -cc -e a -x h",
		"grep", "grep -EF a", "grep -clq a", "grep [",
	}
}

const someLines = "a 1\nb\n\nab 2\nB\nb"

// One mild fault at each transfer in turn, and one at every transfer.
func TestMildFaultsAtEveryTransfer(t *testing.T) {
	for _, args := range commands() {
		for buf := 1; buf < 5; buf++ {
			j := job(someLines, args)
			j.Lim.Buf = buf
			want := follows(t, j)
			var scripts []string
			for n := range want.Steps {
				at := strings.Repeat(".", n)
				scripts = append(scripts, at+"i", at+"1", at+"iii2")
			}
			for _, signs := range append(scripts, strings.Repeat("i", 500), strings.Repeat("1", 500), strings.Repeat("i0i2", 300)) {
				j.Faults = faults(signs)
				comesLike(t, j, want)
			}
		}
	}
}

// A transfer that fails, each in turn. A Write: what was told is a beginning of what is told without faults, the status is not 0, and one line says it. A Read of the one input: as if it ended there, behind some of its lines.
func TestFailuresAtEveryTransfer(t *testing.T) {
	for _, args := range commands() {
		for buf := 1; buf < 5; buf++ {
			pure := job(someLines, args)
			pure.Lim.Buf = buf
			want := run(t, pure)
			for n := range want.Steps {
				for _, sign := range []string{"e", "s", "p", "1e", "ie", "ee"} {
					j := pure
					j.Faults = faults(strings.Repeat(".", n) + sign)
					got := follows(t, j)
					if sign == "s" || sign == "p" {
						isABeginning(t, j, got, want)
					}
					if sign == "e" && strings.HasSuffix(string(got.Err), ": -: input/output error\n") && !isOfABeginning(t, pure, got) {
						t.Errorf("%s, Buf %d, faults %q: told %q, of no beginning of the input", args, buf, signsOf(j.Faults), got.Out)
					}
				}
			}
		}
	}
}

// isABeginning fails, if what was told is no beginning of what should have been, or if it is not all, and that was not said.
func isABeginning(t *testing.T, j api.Job, got, want api.Result) {
	t.Helper()
	if string(got.Out) == string(want.Out) {
		return
	}
	if !strings.HasPrefix(string(want.Out), string(got.Out)) || !strings.Contains(string(got.Err), "grep: standard output: ") || got.Status != 2 {
		t.Errorf("%q, Lim %v, faults %q: told %q, said %q, %d; without faults %q", j.Args, j.Lim, signsOf(j.Faults), got.Out, got.Err, got.Status, want.Out)
	}
}

// isOfABeginning tells whether a job tells that of some beginning of what the descriptor 0 says, or nothing of it where it fails.
func isOfABeginning(t *testing.T, j api.Job, got api.Result) bool {
	t.Helper()
	whole := j.In
	for n := range len(whole) + 1 {
		j.In = whole[:n]
		told := string(run(t, j).Out)
		if told == string(got.Out) {
			return true
		}
		if slices.Contains(j.Args, "-c") || slices.Contains(j.Args, "-cv") || slices.Contains(j.Args, "-cs") { // what it is not told of an input that fails
			for line := range strings.Lines(told) {
				if strings.Replace(told, line, "", 1) == string(got.Out) {
					return true
				}
			}
		}
	}
	return got.Status == 2 && len(got.Out) == 0
}

// P17.5: what -v selects and what is selected without it are the lines, each once. -c counts the lines that are told.
func TestEachLineOnce(t *testing.T) {
	c := chanceOf(4)
	for range 8000 {
		in := c.text(14)
		args := []string{"grep", "-n", "-e", c.of("a", "b", "^a", "b$", "[^a]", "", "x", "aa*", ".")}
		for range c.Intn(3) {
			args = append(args, c.of("-i", "-x", "-F", "-e1"))
		}
		told := func(more ...string) string {
			j := jobOf(in, append(slices.Clone(args), more...)...)
			j.Lim = lim(1+c.Intn(5), 60)
			j.Faults = c.faults(mildSigns, 40)
			return string(run(t, j).Out)
		}
		var numbered []string
		for n, line := range linesOf(in) {
			numbered = append(numbered, strconv.Itoa(n+1)+":"+line+"\n")
		}
		with, without := told(), told("-v")
		var each []string
		for line := range strings.Lines(with + without) {
			each = append(each, line)
		}
		slices.Sort(each)
		slices.Sort(numbered)
		if !slices.Equal(each, numbered) {
			t.Errorf("%q, In %q: told %q and %q", args, in, with, without)
		}
		if n := strings.Count(with, "\n"); told("-c") != strconv.Itoa(n)+"\n" {
			t.Errorf("%q, In %q: -c tells %q, not %d", args, in, told("-c"), n)
		}
		if n := strings.Count(without, "\n"); told("-cv") != strconv.Itoa(n)+"\n" {
			t.Errorf("%q, In %q: -cv tells %q, not %d", args, in, told("-cv"), n)
		}
	}
}

func linesOf(s string) []string {
	var l []string
	for line := range strings.Lines(s) {
		l = append(l, strings.TrimSuffix(line, "\n"))
	}
	return l
}

// P17.5, of several inputs, some of which fail: -c counts of each that does not the lines that are told.
func TestCountsOfSeveral(t *testing.T) {
	c := chanceOf(5)
	for range 5000 {
		j := c.job()
		if a := askedOf(j.Args); !a.ok || a.has("c") || a.has("l") || a.has("q") || len(a.inputs) < 2 {
			continue
		}
		lines, counts := map[string]int{}, map[string]int{}
		for line := range strings.Lines(string(run(t, j).Out)) {
			name, _, _ := strings.Cut(line, ":")
			lines[name]++
		}
		j.Args = append([]string{"grep", "-c"}, j.Args[1:]...)
		for line := range strings.Lines(string(run(t, j).Out)) {
			name, digits, _ := strings.Cut(line, ":")
			n, err := strconv.Atoi(strings.TrimSuffix(digits, "\n"))
			if err != nil {
				t.Errorf("%q, In %q: %q", j.Args, j.In, line)
			}
			counts[name] += n // an input may be one more than once
		}
		for name, n := range counts {
			if n != lines[name] {
				t.Errorf("%q, In %q: %d of %s, but %d lines are told", j.Args, j.In, n, name, lines[name])
			}
		}
	}
}

// Inputs of every few bytes, and lists.
func TestEveryShortInput(t *testing.T) {
	texts := everyText(5, "a", "b", "\n")
	for _, in := range texts {
		for _, l := range []api.Limits{lim(1, 1), lim(2, 2), lim(3, 6)} {
			for _, args := range []string{"grep a", "grep -nv a", "grep -c ^b", "grep -x ", "grep -lv b*", "grep -q ab"} {
				j := job(in, args)
				j.Lim = l
				follows(t, j)
			}
		}
	}
	for _, texts := range everyText(4, "a", "b", "\n") {
		for _, in := range []string{"", "\n", "a\n", "b", "ab\n\nb\n", "c\n"} {
			for _, options := range []string{"-F", "-nx", "-vE", "-ci"} {
				if !areKnown(texts) {
					continue
				}
				follows(t, jobOf(in, "grep", options, texts))
				follows(t, jobOf(in, "grep", options, "-e", texts, "-e", "b"))
				j := jobOf(in, "grep", options, "-f", "ab")
				j.Nodes[0].Data = []byte(texts)
				follows(t, j)
			}
		}
	}
}

// areKnown tells whether the model knows the patterns of a list.
func areKnown(list string) bool {
	return !slices.ContainsFunc(strings.Split(list, "\n"), func(s string) bool {
		_, ok := known[s]
		return !ok && !plain.MatchString(s)
	})
}

// everyText are all texts of up to so many signs.
func everyText(most int, signs ...string) []string {
	all := []string{""}
	for begin := 0; most > 0; most-- {
		end := len(all)
		for _, s := range all[begin:end] {
			for _, sign := range signs {
				all = append(all, s+sign)
			}
		}
		begin = end
	}
	return all
}
