package flow_test

import (
	"math/rand"
	"reflect"
	"slices"
	"strconv"
	"strings"
	"testing"

	"toolchest/api"
)

// P7.5, and chapter 5's P5.6 of these utilities

// chance makes jobs: always the same ones.
type chance struct{ *rand.Rand }

func (c chance) of(texts ...string) string { return texts[c.Intn(len(texts))] }

func (c chance) some(most int, texts ...string) string {
	var s string
	for range c.Intn(most + 1) {
		s += c.of(texts...)
	}
	return s
}

func (c chance) text(most int) string { return c.some(most, "a", "b", " ", "\n", "\t", "\r") }

const (
	mildSigns = ".i012345"
	allSigns  = mildSigns + "......esp"
)

func (c chance) faults(signs string, most int) []api.Fault {
	return faults(c.some(most, strings.Split(signs, "")...))
}

// job is one whose operands may be anything.
func (c chance) job() api.Job {
	options := map[string][]string{"cat": {"", "-u", "--"}, "tee": {"", "", "-a", "--"}, "wc": {"", "-l", "-w", "-cl", "-w -c", "-l --"}}
	name := c.of("cat", "tee", "wc")
	args := name + " " + c.of(options[name]...) + c.some(4, " f", " e", " d/g", " d", " x", " n/y", " -", " f")
	j := job(c.text(30), args)
	j.Nodes[3].Data = []byte(c.text(12))
	j.Lim = lim(1 + c.Intn(6))
	return j
}

func TestAgainstAModel(t *testing.T) {
	c := chance{rand.New(rand.NewSource(7))}
	failed := 0
	for range 30000 {
		j := c.job()
		j.Faults = c.faults(allSigns, 60)
		failed += follows(t, j).Status
	}
	if failed < 5000 || failed > 25000 {
		t.Errorf("%d have failed", failed)
	}
}

// A job that is stepped comes to what it comes to when it is run.
func TestSteppedJobs(t *testing.T) {
	c := chance{rand.New(rand.NewSource(8))}
	for range 2000 {
		j := c.job()
		j.Faults = c.faults(allSigns, 40)
		want := run(t, j)
		if got := newRig(t, j).result(); !reflect.DeepEqual(got, want) {
			t.Errorf("%q, In %q, Buf %d, faults %v: %v, not %v", j.Args, j.In, j.Lim.Buf, j.Faults, got, want)
		}
	}
}

func repeats(args []string) bool {
	for i, arg := range args {
		if slices.Contains(args[:i], arg) {
			return true
		}
	}
	return false
}

// Mild faults change nothing but how many steps it takes.
func TestMildFaults(t *testing.T) {
	c := chance{rand.New(rand.NewSource(9))}
	for range 20000 {
		j := c.job()
		if j.Args[0] == "tee" && repeats(j.Args) {
			continue // what becomes of a file to which two append hangs on chunks
		}
		want := run(t, j)
		j.Faults = c.faults(mildSigns, 80)
		got := comes(t, j, string(want.Out), string(want.Err), want.Status)
		if !reflect.DeepEqual(got.Nodes, want.Nodes) {
			t.Errorf("%q, In %q, Buf %d, faults %v: %v, not %v", j.Args, j.In, j.Lim.Buf, j.Faults, got.Nodes, want.Nodes)
		}
	}
}

// One mild fault at each transfer in turn, and one at every transfer.
func TestMildFaultsAtEveryTransfer(t *testing.T) {
	for _, args := range []string{"cat", "cat f - d/g x e", "tee", "tee f h", "tee -a f d h", "wc", "wc -lw f - d x"} {
		for buf := 1; buf < 5; buf++ {
			j := job("ab cd\n\nefg h", args)
			j.Lim = lim(buf)
			want := run(t, j)
			var scripts []string
			for n := range want.Steps {
				scripts = append(scripts, strings.Repeat(".", n)+"i", strings.Repeat(".", n)+"1", strings.Repeat(".", n)+"iii2")
			}
			for _, signs := range append(scripts, strings.Repeat("i", 500), strings.Repeat("1", 500), strings.Repeat("i0i2", 300)) {
				j.Faults = faults(signs)
				got := comes(t, j, string(want.Out), string(want.Err), want.Status)
				if !reflect.DeepEqual(got.Nodes, want.Nodes) {
					t.Errorf("%q, Buf %d, faults %s: %v, not %v", j.Args, buf, signs, got.Nodes, want.Nodes)
				}
			}
		}
	}
}

// A transfer that fails, each in turn.
func TestFailuresAtEveryTransfer(t *testing.T) {
	for _, args := range []string{"cat", "cat f - d/g x e", "tee", "tee f h", "tee -a f d h", "wc", "wc -lw f - d x"} {
		for buf := 1; buf < 5; buf++ {
			pure := job("ab cd\n\nefg h", args)
			pure.Lim = lim(buf)
			want := run(t, pure)
			for n := range want.Steps {
				for _, sign := range []string{"e", "s", "p", "1e", "ee"} {
					j := pure
					j.Faults = faults(strings.Repeat(".", n) + sign)
					got := follows(t, j)
					onlyWrites := sign == "s" || sign == "p"
					if onlyWrites && !strings.HasPrefix(string(want.Out), string(got.Out)) {
						t.Errorf("%s, Buf %d, faults %v: told %q, no beginning of %q", args, buf, j.Faults, got.Out, want.Out)
					}
					if string(got.Out) != string(want.Out) && got.Status == 0 {
						t.Errorf("%s, Buf %d, faults %v: told %q, and the status is 0", args, buf, j.Faults, got.Out)
					}
				}
			}
		}
	}
}

// cat of one input is that input.
func TestCatOfOne(t *testing.T) {
	c := chance{rand.New(rand.NewSource(10))}
	for range 2000 {
		data := c.text(60)
		j := job("no", "cat h")
		j.Nodes, j.Lim = []api.Node{file("/h", data)}, lim(1+c.Intn(70))
		j.Faults = c.faults(mildSigns, 50)
		comes(t, j, data, "", 0)
		j.In, j.Nodes, j.Args = []byte(data), nil, []string{"cat"}
		comes(t, j, data, "", 0)
	}
}

// tee's files and its output are one and the same: what came in.
func TestTeeIsTheSame(t *testing.T) {
	c := chance{rand.New(rand.NewSource(11))}
	for range 2000 {
		data := c.text(60)
		j := job(data, "tee h f d/g")
		j.Lim, j.Faults = lim(1+c.Intn(70)), c.faults(mildSigns, 80)
		r := comes(t, j, data, "", 0)
		for _, path := range []string{"/h", "/f", "/d/g"} {
			says(t, r, path, data)
		}
	}
}

// numbersOf are the counts of a line.
func numbersOf(t *testing.T, line string) [3]int {
	t.Helper()
	var l [3]int
	for i, field := range strings.Fields(line)[:3] {
		n, err := strconv.Atoi(field)
		if err != nil {
			t.Fatal(err)
		}
		l[i] = n
	}
	return l
}

// wc's sums are those of the inputs one behind the other, but for words that are parted between two.
func TestWcSums(t *testing.T) {
	c := chance{rand.New(rand.NewSource(12))}
	for range 3000 {
		j := job("", "wc")
		j.Nodes, j.Lim = nil, lim(1+c.Intn(30))
		j.Faults = c.faults(mildSigns, 50)
		var all string
		parted := 0
		for n := range 2 + c.Intn(4) {
			data := c.text(20)
			isPart := func(s string) bool { return s == "a" || s == "b" }
			if all != "" && data != "" && isPart(all[len(all)-1:]) && isPart(data[:1]) {
				parted++
			}
			all += data
			name := strconv.Itoa(n)
			j.Nodes, j.Args = append(j.Nodes, file("/"+name, data)), append(j.Args, name)
		}
		lines := strings.Split(strings.TrimSuffix(string(run(t, j).Out), "\n"), "\n")
		total := lines[len(lines)-1]
		whole := numbersOf(t, string(run(t, api.Job{Args: []string{"wc"}, In: []byte(all), Lim: j.Lim}).Out))
		whole[1] += parted
		if got := numbersOf(t, total); got != whole || !strings.HasSuffix(total, " total") || len(lines) != len(j.Args) {
			t.Errorf("%q of %v: %q, not %v", j.Args, j.Nodes, lines, whole)
		}
	}
}

// P7.4: as many bytes as a buffer has are held, if there are so many, and no more.
func TestHeld(t *testing.T) {
	in := strings.Repeat("abc d\n", 20)
	for _, args := range []string{"cat", "cat - f f", "tee", "tee h f", "wc", "wc -l f - f"} {
		for _, buf := range []int{1, 2, 5, 119, 120, 121, 1000} {
			j := job(in, args)
			j.Lim = lim(buf)
			if r := run(t, j); r.Peak != min(buf, len(in)) {
				t.Errorf("%s, Buf %d: %d bytes were held", args, buf, r.Peak)
			}
		}
	}
}
