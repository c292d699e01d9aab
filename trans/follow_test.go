package trans_test

import (
	"math/rand"
	"reflect"
	"strings"
	"testing"

	"toolchest/api"
)

// chance makes jobs: always the same ones.
type chance struct{ *rand.Rand }

func chanceOf(seed int64) chance { return chance{rand.New(rand.NewSource(seed))} }

func (c chance) of(texts ...string) string { return texts[c.Intn(len(texts))] }

func (c chance) some(most int, texts ...string) string {
	var s string
	for range c.Intn(most + 1) {
		s += c.of(texts...)
	}
	return s
}

func (c chance) text(most int) string {
	return c.some(most, "a", "a", "aa", "b", "bb", "c", "x", "xx", "y", "1", "A", " ", "\n", "\n\n", "\x00", "\xff")
}

const (
	mildSigns = ".i012345"
	allSigns  = mildSigns + "......esp"
)

func (c chance) faults(signs string, most int) []api.Fault {
	return faults(c.some(most, strings.Split(signs, "")...))
}

// set is a string of a few pieces, most of which may be.
func (c chance) set(most int) string {
	pieces := []string{"a", "b", "c", "x", "y", "a-c", "b-y", "x-x", "-", `\n`, `\141`, `\0`, `\377`, `\\`, "[=a=]", `[=\n=]`, "[x*2]", "[y*03]", "[:alpha:]", "[:digit:]", "[:space:]", "[:cntrl:]", "[:upper:]", "[:lower:]", `\0-\377`, `\1-\176`}
	if c.Intn(3) == 0 {
		pieces = append(pieces, "[y*]", "[x*0]")
	}
	if c.Intn(8) == 0 {
		pieces = append(pieces, "[", "]", "[:", ":]", "[=", "=]", "*", "[:foo:]", "c-a", `\`, "[x*08]", "[x*2147483648]", "[x*65537]")
	}
	return c.some(most, pieces...)
}

// args are those of tr; now and then such as may not be.
func (c chance) args() []string {
	var args []string
	for range c.Intn(3) {
		args = append(args, c.of("-s", "-s", "-d", "-d", "-c", "-C", "-ds", "-sc", "-cs", "-dc", "-Cd", "-cC", "-sss", "-dsc"))
	}
	if c.Intn(30) == 0 {
		args = append(args, c.of("-x", "-sx", "-D", "-t"))
	}
	if c.Intn(3) == 0 {
		args = append(args, "--")
	}
	most := 2
	if strings.Contains(strings.Join(args, ""), "d") {
		most = 1 + c.Intn(2)
	}
	for range most {
		args = append(args, c.set(3))
	}
	if c.Intn(10) == 0 {
		args = append(args, c.set(1))
	}
	if c.Intn(5) == 0 && len(args) > 0 {
		args = args[:len(args)-1]
	}
	return args
}

func (c chance) job() api.Job {
	j := job(c.text(25), c.args()...)
	j.Lim = lim(1 + c.Intn(9))
	return j
}

func TestAgainstAModel(t *testing.T) {
	c := chanceOf(2)
	refused, failed := 0, 0
	for range 30000 {
		j := c.job()
		refused += follows(t, j).Status
		j.Faults = c.faults(allSigns, 40)
		failed += follows(t, j).Status
	}
	if refused < 5000 || refused > 20000 || failed < refused+3000 {
		t.Errorf("%d were refused, %d have failed", refused, failed)
	}
}

// A job that is stepped comes to what it comes to when it is run.
func TestSteppedJobs(t *testing.T) {
	c := chanceOf(3)
	for range 2000 {
		j := c.job()
		j.Faults = c.faults(allSigns, 40)
		want := run(t, j)
		if got := newRig(t, j).result(); !reflect.DeepEqual(got, want) {
			t.Errorf("%q, In %q, Buf %d, faults %v: %v, not %v", j.Args, j.In, j.Lim.Buf, j.Faults, got, want)
		}
	}
}

// P5.6: mild faults change nothing but how many steps it takes.
func TestMildFaults(t *testing.T) {
	c := chanceOf(4)
	for range 15000 {
		j := c.job()
		want := run(t, j)
		j.Faults = c.faults(mildSigns, 80)
		comes(t, j, string(want.Out), string(want.Err), want.Status)
	}
}

// commands are of every kind.
func commands() [][]string {
	return [][]string{
		{"a-c", "A-C"}, {"-s", "a-c", "x"}, {"-s", "a"}, {"-cs", "a-z", `[\n*]`}, {"-d", "b"}, {"-ds", "b", "a"}, {"-dsC", "abc", "b"}, {"-c", "a", "[x*]y"}, {"", ""}, {"-d", "a-c"}, {"a"}, {"-d", "a", "b"}, {"a", ""},
	}
}

const someBytes = "aabbaccab bb  c\n\naaa"

// One mild fault at each transfer in turn, and one at every transfer.
func TestMildFaultsAtEveryTransfer(t *testing.T) {
	for _, args := range commands() {
		for buf := 1; buf < 6; buf++ {
			j := job(someBytes, args...)
			j.Lim = lim(buf)
			want := run(t, j)
			var scripts []string
			for n := range want.Steps {
				at := strings.Repeat(".", n)
				scripts = append(scripts, at+"i", at+"1", at+"iii2")
			}
			for _, signs := range append(scripts, strings.Repeat("i", 500), strings.Repeat("1", 500), strings.Repeat("i0i2", 300)) {
				j.Faults = faults(signs)
				comes(t, j, string(want.Out), string(want.Err), want.Status)
			}
		}
	}
}

// P5.6: a transfer that fails, each in turn. If it is a Write to the descriptor 1, what was told is a beginning of the pure output; if it is a Read, it is the pure output of a beginning of the input.
func TestFailuresAtEveryTransfer(t *testing.T) {
	for _, args := range commands() {
		for buf := 1; buf < 6; buf++ {
			pure := job(someBytes, args...)
			pure.Lim = lim(buf)
			want := run(t, pure)
			for n := range want.Steps {
				for _, sign := range []string{"e", "s", "p", "1e", "ee"} {
					j := pure
					j.Faults = faults(strings.Repeat(".", n) + sign)
					got := follows(t, j)
					told := string(got.Out)
					if !strings.HasPrefix(string(want.Out), told) {
						t.Errorf("%q, Buf %d, faults %v: told %q, no beginning of %q", args, buf, j.Faults, told, want.Out)
					}
					if told != string(want.Out) && got.Status == 0 {
						t.Errorf("%q, Buf %d, faults %v: told %q, and the status is 0", args, buf, j.Faults, told)
					}
					if strings.HasSuffix(string(got.Err), ": -: input/output error\n") && !isOfABeginning(t, pure, told) {
						t.Errorf("%q, Buf %d, faults %v: told %q, of no beginning of the input", args, buf, j.Faults, told)
					}
				}
			}
		}
	}
}

// isOfABeginning tells whether a job tells that of some beginning of its input.
func isOfABeginning(t *testing.T, j api.Job, told string) bool {
	whole := j.In
	for n := range len(whole) + 1 {
		j.In = whole[:n]
		if string(run(t, j).Out) == told {
			return true
		}
	}
	return false
}

// octals are bytes as signs of a string.
func octals(l []int) string {
	var s string
	for _, c := range l {
		s += `\` + string([]byte{'0' + byte(c>>6), '0' + byte(c>>3&7), '0' + byte(c&7)})
	}
	return s
}

// P10.3: translated from one set without doubles into another one of as many bytes without doubles, and back, bytes are as they were, if they had none of the second set that the first one lacks.
func TestThereAndBack(t *testing.T) {
	c := chanceOf(5)
	for range 3000 {
		n := c.Intn(257)
		one, two := c.Perm(256)[:n], c.Perm(256)[:n]
		isOne, isTwo := map[int]int{}, map[int]int{}
		for i := range n {
			isOne[one[i]], isTwo[two[i]] = 1, 1
		}
		var in []byte
		for range 60 {
			if b := c.Intn(256); isOne[b] >= isTwo[b] {
				in = append(in, byte(b))
			}
		}
		j := job(string(in), octals(one), octals(two))
		j.Lim = lim(1 + c.Intn(70))
		j.Faults = c.faults(mildSigns, 20)
		j.In = run(t, j).Out
		j.Args = []string{"tr", octals(two), octals(one)}
		comes(t, j, string(in), "", 0)
	}
	for _, sets := range [][]string{{"a-z", "A-Z"}, {"[:lower:]", "[:upper:]"}, {"a-z", "b-za"}, {`\0-\377`, `\1-\377\0`}} {
		in := "abc xyz\n\x00\xff"
		j := job(in, sets...)
		j.In = run(t, j).Out
		j.Args[1], j.Args[2] = j.Args[2], j.Args[1]
		comes(t, j, in, "", 0)
	}
}

// P10.3: what was squeezed is squeezed no more.
func TestSqueezedTwice(t *testing.T) {
	c := chanceOf(6)
	for range 5000 {
		set := c.some(3, "a", "b", "a-c", `\n`, "[:alpha:]", "[x*2]", "[:space:]", `\0-\377`, "x")
		complement := c.of("-s", "-sc", "-sC")
		j := job(c.text(40), complement, set)
		j.Lim = lim(1 + c.Intn(50))
		j.Faults = c.faults(mildSigns, 20)
		once := run(t, j).Out
		j.In = once
		comes(t, j, string(once), "", 0)
		j = job(c.text(40), "-s", "a-c", "x"+set)
		once = run(t, j).Out
		j = job(string(once), "-s", "x"+set)
		j.Lim = lim(1 + c.Intn(50))
		comes(t, j, string(once), "", 0)
	}
}
