package sortkit_test

import (
	"reflect"
	"slices"
	"strings"
	"testing"

	"toolchest/api"
	"toolchest/order"
)

func TestAgainstAModel(t *testing.T) {
	c := chanceOf(1)
	failed := 0
	for range 30000 {
		if follows(t, c.job()).Status == 2 {
			failed++
		}
	}
	if failed < 3000 || failed > 15000 {
		t.Errorf("%d have failed", failed)
	}
}

// Mild faults change nothing but how many steps it takes.
func TestMildFaults(t *testing.T) {
	c := chanceOf(2)
	for range 20000 {
		j := c.job()
		j.Faults = c.faults(mildSigns, 200)
		follows(t, j)
	}
}

// A job that is stepped comes to what it comes to when it is run (R5: whoever goes through it, and how often).
func TestSteppedJobs(t *testing.T) {
	c := chanceOf(3)
	for range 500 {
		j := c.job()
		j.Faults = c.faults(allSigns, 150)
		want := run(t, j)
		if got := newRig(t, j).result(nil); !reflect.DeepEqual(got, want) {
			t.Errorf("%q, In %q, Lim %v, faults %v: %v, not %v", j.Args, j.In, j.Lim, j.Faults, got, want)
		}
		if again := run(t, j); !reflect.DeepEqual(again, want) {
			t.Errorf("%q, In %q, Lim %v, faults %v: %v, not %v", j.Args, j.In, j.Lim, j.Faults, again, want)
		}
	}
}

// commands are of every kind.
func commands() []string {
	return []string{
		"sort", "sort -u", "sort -f - e", "sort -fu - f", "sort - f x d h", "sort -o z", "sort -o f - f", "sort -uo e h -", "sort -o d -",
		"sort -m -r - f", "sort k - l", "sort -nk2", "sort -c", "sort -C", "sort -c f", "sort -c d/g", "sort -cu e", "sort -c k", "sort -x", "sort x",
	}
}

const someLines = "pq\nab\n\nAB\nxy z\nb\nab\nq\nB\n\nc"

// limitsOf are a few kinds of limits: all is held, some is spilt, most is.
func limitsOf() []api.Limits { return []api.Limits{lim(3, 8, 1000), lim(2, 8, 24), lim(1, 8, 8)} }

// One mild fault at each transfer in turn, and one at every transfer.
func TestMildFaultsAtEveryTransfer(t *testing.T) {
	for _, args := range commands() {
		for _, l := range limitsOf() {
			j := job(someLines, args)
			j.Lim = l
			want := follows(t, j)
			var scripts []string
			for n := range want.Steps {
				at := strings.Repeat(".", n)
				scripts = append(scripts, at+"i", at+"1", at+"iii2")
			}
			for _, signs := range append(scripts, strings.Repeat("i", 500), strings.Repeat("1", 1500), strings.Repeat("i0i2", 600)) {
				j.Faults = faults(signs)
				if r := follows(t, j); r.Steps > want.Steps+r.Used {
					t.Errorf("%s, Lim %v, faults %q: %d steps, %d without faults", args, l, signs, r.Steps, want.Steps)
				}
			}
		}
	}
}

// Failures by chance: however many there are, no spill file is left, what is held is not too much, and nothing is told but lines of the inputs, in order.
func TestFailuresByChance(t *testing.T) {
	c := chanceOf(4)
	failed := 0
	for range 20000 {
		j := c.job()
		j.Faults = c.faults(allSigns, 300)
		got := run(t, j)
		within(t, j, got)
		if !areSame(got.Nodes, dumped(t, withoutSpills(got.Nodes))) {
			t.Errorf("%q, In %q, Lim %v, faults %v: the tree is %v", j.Args, j.In, j.Lim, j.Faults, got.Nodes)
		}
		if !isOfLines(t, j, string(got.Out)) {
			t.Errorf("%q, In %q, Lim %v, faults %v: told %q", j.Args, j.In, j.Lim, j.Faults, got.Out)
		}
		if got.Status == 2 {
			failed++
		}
	}
	if failed < 4000 || failed > 18000 {
		t.Errorf("%d have failed", failed)
	}
}

// isOfLines tells whether what was told is lines of the inputs, in order; the last one may be cut short.
func isOfLines(t *testing.T, j api.Job, told string) bool {
	t.Helper()
	if told == "" {
		return true
	}
	m := &model{asked: askedOf(j.Args), job: j}
	m.order, _ = order.Read(m.opts)
	var lines []string
	for _, operand := range m.inputs() {
		lines = append(lines, m.lines(operand)...)
	}
	of := strings.Split(told, "\n")
	for _, line := range of[:len(of)-1] {
		i := slices.Index(lines, line)
		if i < 0 {
			return false
		}
		lines = slices.Delete(lines, i, i+1)
	}
	return m.check(of[:len(of)-1])
}

// P13.6: what is told is the same for every Run, and every Buf.
func TestEveryRun(t *testing.T) {
	c := chanceOf(5)
	for range 200 {
		j := c.job()
		j.Lim.Line = 1 + c.Intn(6)
		j.Lim.Run = 1000
		want := follows(t, j)
		for run := j.Lim.Line; run < 70; run++ {
			j.Lim.Run = run
			j.Lim.Buf = 1 + c.Intn(5)
			j.Faults = c.faults(mildSigns, 60)
			if got := follows(t, j); string(got.Out) != string(want.Out) {
				t.Errorf("%q, Lim %v: told %q, not %q", j.Args, j.Lim, got.Out, want.Out)
			}
		}
	}
}

// P13.6: what was sorted is the same when it is sorted once more.
func TestSortedOnceMore(t *testing.T) {
	c := chanceOf(6)
	for range 5000 {
		j := jobOf(c.text(60), append([]string{"sort"}, c.order()...)...)
		j.Lim = lim(1+c.Intn(5), 60, 60+c.Intn(60))
		out := run(t, j).Out
		j.In = out
		j.Lim = lim(1+c.Intn(5), 60, 60+c.Intn(60))
		comes(t, j, string(out), "", 0)
	}
}

// P13.6: the sorted lines of two inputs, sorted together, are the lines of both, sorted. (With -u, too: the first ones of the first ones.)
func TestSortedTogether(t *testing.T) {
	c := chanceOf(7)
	for range 4000 {
		options := c.order()
		l := lim(1+c.Intn(5), 12, 12+c.Intn(50))
		sorted := func(in, second string, operands ...string) string {
			j := jobOf(in, append(append([]string{"sort"}, options...), operands...)...)
			j.Nodes[3].Data = []byte(second)
			j.Lim = l
			return string(run(t, j).Out)
		}
		one, two := c.some(12, "a\n", "b\n", "B\n", "A b\n", "\n", "1:2\n", "2:1\n")+"a", c.some(12, "a\n", "b\n", "B\n", "a B\n", "10\n", "9\n")
		if got, want := sorted(sorted(one, ""), sorted(two, ""), "-", "f"), sorted(one, two, "-", "f"); got != want {
			t.Errorf("%q, %q and %q: %q, not %q", options, one, two, got, want)
		}
		options = append([]string{"-m"}, options...)
		if got, want := sorted(sorted(one, ""), sorted(two, ""), "-", "f"), sorted(one, two, "-", "f"); got != want {
			t.Errorf("%q, %q and %q: %q, not %q", options, one, two, got, want)
		}
	}
}

// Inputs of every few bytes, and limits of every few.
func TestEveryShortInput(t *testing.T) {
	for _, in := range everyText(6, "a", "b", "\n") {
		for _, l := range []api.Limits{lim(1, 1, 1), lim(2, 1, 1), lim(1, 2, 2), lim(1, 6, 6)} {
			for _, args := range []string{"sort", "sort -u", "sort -r", "sort -c"} {
				j := job(in, args)
				j.Lim = l
				follows(t, j)
			}
		}
	}
}

// everyText are all texts of up to so many signs.
func everyText(most int, signs ...string) []string {
	all := []string{""}
	for begin := 0; most > 0; most-- {
		end := len(all)
		for _, s := range all[begin:end] {
			for _, sign := range signs {
				all = append(all, s+sign)
			}
		}
		begin = end
	}
	return all
}
