package merge_test

import (
	"reflect"
	"slices"
	"strings"
	"testing"

	"toolchest/api"
)

func TestAgainstAModel(t *testing.T) {
	c := chanceOf(1)
	failed, told := map[string]int{}, map[string]int{}
	for range 40000 {
		j := c.job()
		for range 2 {
			r := follows(t, j)
			if r.Status != 0 {
				failed[j.Args[0]]++
			}
			if len(r.Out) > 0 {
				told[j.Args[0]]++
			}
			j.Faults = c.faults(allSigns, 60)
		}
	}
	for _, name := range []string{"uniq", "comm", "join"} {
		if failed[name] < 5000 || told[name] < 5000 {
			t.Errorf("%s: %d have failed, %d have told something", name, failed[name], told[name])
		}
	}
}

// Mild faults change nothing but how many steps it takes.
func TestMildFaults(t *testing.T) {
	c := chanceOf(2)
	for range 20000 {
		j := c.job()
		want := run(t, j)
		j.Faults = c.faults(mildSigns, 80)
		if r := comesTo(t, j, want); r.Steps > want.Steps+r.Used {
			t.Errorf("%q, In %q, Lim %v, faults %q: %d steps, %d without faults", j.Args, j.In, j.Lim, signsOf(j.Faults), r.Steps, want.Steps)
		}
	}
}

// A job that is stepped comes to what it comes to when it is run (R5: whoever goes through it, and how often).
func TestSteppedJobs(t *testing.T) {
	c := chanceOf(3)
	for range 3000 {
		j := c.job()
		j.Faults = c.faults(allSigns, 40)
		want := run(t, j)
		if got := newRig(t, j).result(); !reflect.DeepEqual(got, want) {
			t.Errorf("%q, In %q, Lim %v, faults %q: %v, not %v", j.Args, j.In, j.Lim, signsOf(j.Faults), got, want)
		}
		if again := run(t, j); !reflect.DeepEqual(again, want) {
			t.Errorf("%q, In %q, Lim %v, faults %q: %v, not %v", j.Args, j.In, j.Lim, signsOf(j.Faults), again, want)
		}
	}
}

// commands are of every kind.
func commands() []string {
	return []string{
		"uniq", "uniq -c", "uniq -d", "uniq -u f", "uniq -f 1 -c", "uniq -s 1", "uniq - z", "uniq -c f e", "uniq f f", "uniq k", "uniq k z", "uniq x z", "uniq - d", "uniq -cd",
		"comm - f", "comm f h", "comm -12 f f", "comm -3 h -", "comm -123 - h", "comm e -", "comm - x", "comm d h", "comm k l", "comm f",
		"join - f", "join f h", "join -a 1 -a 2 f h", "join -v 1 - h", "join -v 2 -a 1 f -", "join -o 0,1.2,2.2 -e - -a1 -a2 f h", "join -t a - f", "join -1 2 f h", "join f f", "join e - -a", "join x f", "join k h", "join -a 2 l -",
	}
}

const someLines = "a 1\na 1\na 2\n\nb\nd\nd 4"

// One mild fault at each transfer in turn, and one at every transfer.
func TestMildFaultsAtEveryTransfer(t *testing.T) {
	for _, args := range commands() {
		for buf := 1; buf < 5; buf++ {
			j := job(someLines, args)
			j.Lim.Buf = buf
			want := follows(t, j)
			var scripts []string
			for n := range want.Steps {
				at := strings.Repeat(".", n)
				scripts = append(scripts, at+"i", at+"1", at+"iii2")
			}
			for _, signs := range append(scripts, strings.Repeat("i", 500), strings.Repeat("1", 500), strings.Repeat("i0i2", 300)) {
				j.Faults = faults(signs)
				if r := comesTo(t, j, want); r.Steps > want.Steps+r.Used {
					t.Errorf("%s, Buf %d, faults %q: %d steps, %d without faults", args, buf, signs, r.Steps, want.Steps)
				}
			}
		}
	}
}

// A transfer that fails, each in turn. A Write: what was told is a beginning of what is told without faults, nothing follows, the status is not 0, and one line more says it. A Read: as if the input ended there, behind some of its lines.
func TestFailuresAtEveryTransfer(t *testing.T) {
	for _, args := range commands() {
		for buf := 1; buf < 5; buf++ {
			pure := job(someLines, args)
			pure.Lim.Buf = buf
			want := run(t, pure)
			for n := range want.Steps {
				for _, sign := range []string{"e", "s", "p", "1e", "ie", "ee"} {
					j := pure
					j.Faults = faults(strings.Repeat(".", n) + sign)
					got := follows(t, j)
					if (sign == "s" || sign == "p") && !isABeginning(j, got, want) {
						t.Errorf("%s, Buf %d, faults %q: told %q and %v, no beginning of %q and %v", args, buf, signsOf(j.Faults), got.Out, got.Nodes, want.Out, want.Nodes)
					}
					if toldBy(j, got) != toldBy(j, want) && got.Status == 0 {
						t.Errorf("%s, Buf %d, faults %q: told %q, and the status is 0", args, buf, signsOf(j.Faults), got.Out)
					}
					if sign == "e" && strings.HasSuffix(string(got.Err), ": -: input/output error\n") && !isOfABeginning(t, pure, toldBy(j, got)) {
						t.Errorf("%s, Buf %d, faults %q: told %q, of no beginning of the input", args, buf, signsOf(j.Faults), got.Out)
					}
				}
			}
		}
	}
}

// toldBy is what was told, wherever it was told.
func toldBy(j api.Job, r api.Result) string {
	if a := askedOf(j.Args); a.name == "uniq" && len(a.operands) == 2 {
		return dataOf(r.Nodes, a.operands[1])
	}
	return string(r.Out)
}

// isABeginning tells whether what was told is a beginning of what should have been; if it is not all, that was said.
func isABeginning(j api.Job, got, want api.Result) bool {
	if toldBy(j, got) == toldBy(j, want) {
		return true
	}
	return strings.HasPrefix(toldBy(j, want), toldBy(j, got)) && strings.Count(string(got.Err), "\n") > 0 && got.Status != 0
}

// isOfABeginning tells whether a job tells that of some beginning of what the descriptor 0 says.
func isOfABeginning(t *testing.T, j api.Job, told string) bool {
	t.Helper()
	whole := j.In
	for n := range len(whole) + 1 {
		j.In = whole[:n]
		if toldBy(j, run(t, j)) == told {
			return true
		}
	}
	return false
}

// P14.5: uniq of uniq's lines is the same.
func TestUniqOnceMore(t *testing.T) {
	c := chanceOf(4)
	for range 5000 {
		args := append([]string{"uniq"}, strings.Fields(c.of("", "-f 1", "-f2", "-s 1", "-s 2 -f 1"))...)
		j := jobOf(c.text(20), args...)
		j.Lim = lim(1+c.Intn(5), 60)
		out := run(t, j).Out
		j.In = out
		j.Faults = c.faults(mildSigns, 40)
		comes(t, j, string(out), "", 0)
		j.Args = append(args, "-c")
		for line := range strings.Lines(string(run(t, j).Out)) { // no two are the same
			if !strings.HasPrefix(line, "1 ") {
				t.Errorf("%q, In %q: %q", j.Args, out, line)
			}
		}
		j.Args = append(args, "-d")
		comes(t, j, "", "", 0)
	}
}

// P14.5: comm -12 and comm -3 tell each line of both inputs.
func TestCommTellsEachLine(t *testing.T) {
	c := chanceOf(5)
	lines := func(s string) []string {
		var l []string
		for line := range strings.Lines(s) {
			l = append(l, strings.TrimSuffix(line, "\n"))
		}
		return l
	}
	for range 5000 {
		one, other := strings.ReplaceAll(c.text(14), "\t", ":"), strings.ReplaceAll(c.text(14), "\t", ":")
		told := func(options ...string) []string {
			j := two(one, other, append([]string{"comm"}, options...)...)
			j.Lim = lim(1+c.Intn(5), 60)
			j.Faults = c.faults(mildSigns, 40)
			return lines(string(run(t, j).Out))
		}
		both := told("-12")
		first, second := slices.Clone(both), slices.Clone(both)
		for _, line := range told("-3") {
			if rest, ok := strings.CutPrefix(line, "\t"); ok {
				second = append(second, rest)
			} else {
				first = append(first, line)
			}
		}
		for i, l := range [][]string{first, second} {
			want := lines([]string{one, other}[i])
			slices.Sort(l)
			slices.Sort(want)
			if !slices.Equal(l, want) {
				t.Errorf("%q and %q: %q, not %q", one, other, l, want)
			}
		}
		if alone := append(told("-23"), told("-13")...); len(alone)+len(both)*2 != len(lines(one))+len(lines(other)) {
			t.Errorf("%q and %q: %q alone, %q in both", one, other, alone, both)
		}
	}
}

// P14.5: join of an input with itself pairs each line with all that have its key.
func TestJoinWithItself(t *testing.T) {
	c := chanceOf(6)
	for range 3000 {
		var l []string
		for i := range c.Intn(9) {
			l = append(l, c.of("a", "b", "c", "ab")+" "+string(rune('0'+i)))
		}
		slices.SortStableFunc(l, func(x, y string) int { return strings.Compare(strings.Fields(x)[0], strings.Fields(y)[0]) })
		want := ""
		for _, x := range l {
			for _, y := range l {
				if key := strings.Fields(x)[0]; key == strings.Fields(y)[0] {
					want += key + " " + strings.Fields(x)[1] + " " + strings.Fields(y)[1] + "\n"
				}
			}
		}
		j := job("q", "join x x")
		j.Nodes = []api.Node{file("/x", strings.Join(l, "\n"))}
		j.Lim = lim(1+c.Intn(5), 60)
		j.Faults = c.faults(mildSigns, 40)
		comes(t, j, want, "", 0)
		j.Args = strings.Fields("join -v 1 -v 2 x x")
		comes(t, j, "", "", 0)
		j.Args = strings.Fields("join -a 1 -a 2 x x")
		comes(t, j, want, "", 0)
	}
}

// Inputs of every few bytes.
func TestEveryShortInput(t *testing.T) {
	for _, in := range everyText(6, "a", "b", "\n") {
		for _, l := range []api.Limits{lim(1, 1), lim(2, 2), lim(3, 6)} {
			for _, args := range []string{"uniq -c", "uniq -d", "uniq -u", "uniq -s 1"} {
				j := job(in, args)
				j.Lim = l
				follows(t, j)
			}
		}
	}
	texts := everyText(4, "a", "b", "\n")
	for _, x := range texts {
		for _, y := range texts {
			for _, args := range []string{"comm", "join -a 1 -a 2", "join -t a -a 1"} {
				j := two(x, y, strings.Fields(args)...)
				j.Lim = lim(1+len(x)%3, 1+len(y))
				follows(t, j)
			}
		}
	}
}

// everyText are all texts of up to so many signs.
func everyText(most int, signs ...string) []string {
	all := []string{""}
	for begin := 0; most > 0; most-- {
		end := len(all)
		for _, s := range all[begin:end] {
			for _, sign := range signs {
				all = append(all, s+sign)
			}
		}
		begin = end
	}
	return all
}
