package stepio_test

import (
	"math/rand"
	"reflect"
	"strings"
	"testing"

	"toolchest/api"
	"toolchest/stepio"
)

// bound is the number of steps that P5.5 allows.
func bound(j api.Job, r api.Result) int {
	data := map[string]int{"-": len(j.In)}
	for _, n := range j.Nodes {
		data[strings.TrimPrefix(n.Path, "/")] = len(n.Data)
	}
	bytes := 0
	for _, operand := range j.Args[1:] {
		bytes += data[operand]
	}
	if len(j.Args) == 1 {
		bytes = data["-"]
	}
	return 8 + 4*(len(j.Args)-1) + 3*bytes + 3*(len(r.Out)+len(r.Err)) + r.Used
}

// keepsBounds fails, if a job has more steps or holds more than it may.
func keepsBounds(t *testing.T, j api.Job, r api.Result) {
	t.Helper()
	if most := bound(j, r); r.Steps > most {
		t.Errorf("%q, In %q, Lim %v, faults %v: %d steps, more than %d", j.Args, j.In, j.Lim, j.Faults, r.Steps, most)
	}
	if r.Peak > j.Lim.Line+j.Lim.Buf {
		t.Errorf("%q, In %q, Lim %v, faults %v: %d bytes were held", j.Args, j.In, j.Lim, j.Faults, r.Peak)
	}
}

// P5.5

func TestStepsOfOrdinaryJobs(t *testing.T) {
	for _, c := range []struct {
		in    string
		args  string
		steps int
	}{
		{"", "chunks", 1},              // a Read
		{"abcd", "chunks", 3},          // a Read, a Write, a Read
		{"abcde", "chunks", 5},         // once more
		{"", "chunks e", 3},            // Open, a Read, Close
		{"", "chunks x", 2},            // Open, a Write
		{"", "chunks d", 4},            // Open, a Read, a Write, Close
		{"a\nb\n", "lines", 4},         // a Read, two Writes, a Read
		{"a\nb", "lines", 4},           // a Read, a Write, a Read, a Write
		{"abcdefg\n", "lines", 4},      // two Reads, a Write, a Read
		{"", "lines f", 7},             // Open, a Read, a Write, two Reads, a Write, Close
		{"", "chunks - -", 1},          // a Read: it has ended
		{"ab", "chunks - x d e", 12},   // 3, 2, 4 and 3
		{"", "chunks d d d d d d", 24}, // four for each
	} {
		j := job(c.in, strings.Fields(c.args)...)
		r := run(t, j)
		if r.Steps != c.steps {
			t.Errorf("%s, In %q: %d steps, not %d", c.args, c.in, r.Steps, c.steps)
		}
		keepsBounds(t, j, r)
	}
}

// A fault at every transfer that there is.
func TestStepsWithFaultsAtEveryTransfer(t *testing.T) {
	for _, args := range []string{"chunks", "lines", "chunks - f d/g e", "lines f - d/g -", "lines x d - y f", "chunks d x d"} {
		for _, signs := range []string{"i", "1", "0", "1i", "iii2", "e", "1e", "s", "p", "ie", "1s1i", "...e"} {
			for buf := 1; buf <= 4; buf++ {
				j := job("ab\n\ncdefg\nh", strings.Fields(args)...)
				j.Lim = lim(buf, 4)
				j.Faults = faults(strings.Repeat(signs, 2000/len(signs)))
				keepsBounds(t, j, run(t, j))
			}
		}
	}
}

// P5.6

// pure is what chunks or lines tell of an input whose lines are short enough.
func pure(name, in string) string {
	if name == "chunks" {
		return in
	}
	var out string
	for _, line := range strings.SplitAfter(in, "\n") {
		if text, fed := strings.CutSuffix(line, "\n"); fed {
			out += "[" + text + "]\n"
		} else if text != "" {
			out += "(" + text + ")\n"
		}
	}
	return out
}

// chance makes jobs: always the same ones.
type chance struct{ *rand.Rand }

func (c chance) text(most int) string {
	var b []byte
	for range c.Intn(most + 1) {
		b = append(b, "ab\n\n"[c.Intn(4)])
	}
	return string(b)
}

func (c chance) signs(of string, most int) string {
	var b []byte
	for range c.Intn(most + 1) {
		b = append(b, of[c.Intn(len(of))])
	}
	return string(b)
}

func (c chance) job() api.Job {
	args := []string{[]string{"chunks", "lines"}[c.Intn(2)]}
	for range c.Intn(4) {
		args = append(args, []string{"-", "f", "e", "d/g", "d", "x"}[c.Intn(6)])
	}
	j := job(c.text(30), args...)
	j.Lim = lim(1+c.Intn(6), 1+c.Intn(8))
	return j
}

const mild = ".i012345"

func TestMildFaults(t *testing.T) {
	c := chance{rand.New(rand.NewSource(1))}
	for range 20000 {
		j := c.job()
		want := run(t, j)
		j.Faults = faults(c.signs(mild, 80))
		got := run(t, j)
		keepsBounds(t, j, got)
		if string(got.Out) != string(want.Out) || string(got.Err) != string(want.Err) || got.Status != want.Status || !reflect.DeepEqual(got.Nodes, want.Nodes) {
			t.Errorf("%q, In %q, Lim %v, faults %v: %v, not %v", j.Args, j.In, j.Lim, j.Faults, got, want)
		}
	}
}

func TestPureResult(t *testing.T) {
	c := chance{rand.New(rand.NewSource(2))}
	for range 5000 {
		j := job(c.text(40), []string{"chunks", "lines"}[c.Intn(2)])
		j.Lim = lim(1+c.Intn(50), 40)
		j.Faults = faults(c.signs(mild, 30))
		comes(t, j, pure(j.Args[0], string(j.In)), "", 0)
	}
}

// Writes to the descriptor 1 fail: a Write alone minds a FaultSpace.
func TestWritesThatFail(t *testing.T) {
	c := chance{rand.New(rand.NewSource(3))}
	failed := 0
	for range 20000 {
		j := c.job()
		want := run(t, j)
		j.Faults = faults(c.signs(mild, 20) + "ssss"[:1+c.Intn(4)])
		got := run(t, j)
		keepsBounds(t, j, got)
		if !strings.HasPrefix(string(want.Out), string(got.Out)) {
			t.Errorf("%q, In %q, faults %v: told %q, no beginning of %q", j.Args, j.In, j.Faults, got.Out, want.Out)
		}
		if string(got.Out) != string(want.Out) {
			failed++
			if got.Status != 1 || strings.Count(string(got.Err), "standard output") > 1 {
				t.Errorf("%q, In %q, faults %v: %d, %q", j.Args, j.In, j.Faults, got.Status, got.Err)
			}
		}
	}
	if failed < 1000 {
		t.Errorf("only %d have failed", failed)
	}
}

// A Read of the one input fails: a sign `e` that falls on a Write is passed over.
func TestAReadThatFails(t *testing.T) {
	c := chance{rand.New(rand.NewSource(4))}
	failed := 0
	for range 10000 {
		j := job(c.text(30), []string{"chunks", "lines"}[c.Intn(2)])
		j.Lim = lim(1+c.Intn(6), 30)
		j.Faults = faults(c.signs(mild, 20) + "e")
		got := run(t, j)
		keepsBounds(t, j, got)
		if string(got.Err) != j.Args[0]+": -: input/output error\n" {
			continue
		}
		failed++
		if got.Status != 1 || !isOfBeginning(j.Args[0], string(j.In), string(got.Out)) {
			t.Errorf("%q, In %q, faults %v: told %q, %d", j.Args, j.In, j.Faults, got.Out, got.Status)
		}
	}
	if failed < 1000 {
		t.Errorf("only %d have failed", failed)
	}
}

// isOfBeginning says whether that is the pure result's Out of a beginning of an input.
func isOfBeginning(name, in, out string) bool {
	for n := range len(in) + 1 {
		if pure(name, in[:n]) == out {
			return true
		}
	}
	return false
}

// model is what a reader must answer, by the bytes that are left and the faults that are left.
type model struct {
	lim   api.Limits
	rest  string
	signs string
	used  int
	ahead string
	last  int
	feed  string
	over  bool
}

// read is a Read of a source: what comes, and whether it fails.
func (m *model) read(most int) bool {
	sign := byte('.')
	if m.used < len(m.signs) {
		sign = m.signs[m.used]
		m.used++
	}
	switch {
	case sign == 'i':
		return m.read(most)
	case sign == 'e':
		return false
	case sign >= '0' && sign <= '9':
		most = min(most, max(1, int(sign-'0')))
	}
	n := min(most, len(m.rest))
	m.ahead, m.rest = m.ahead+m.rest[:n], m.rest[n:]
	m.over = n == 0
	return true
}

func (m *model) chunk() string {
	m.last = 0
	if m.ahead == "" && !m.over && !m.read(m.lim.Buf) {
		return "!7"
	}
	b := m.ahead
	m.ahead, m.last = "", len(b)
	if b == "" {
		return "."
	}
	return b
}

func (m *model) line() string {
	m.last = 0
	for {
		line, behind, fed := strings.Cut(m.ahead, "\n")
		switch {
		case len(line) > m.lim.Line:
			m.ahead, m.over = "", true
			return "!18"
		case fed:
			m.ahead, m.last, m.feed = behind, len(line), "feed"
			return "<" + line + ">"
		case m.over && line == "":
			return "."
		case m.over:
			m.ahead, m.last, m.feed = "", len(line), "none"
			return "<" + line + ">"
		}
		if !m.read(m.lim.Buf) {
			m.ahead = ""
			return "!7"
		}
	}
}

func (m *model) more() string {
	if m.ahead == "" && !m.over && !m.read(min(m.lim.Buf, m.lim.Line+m.lim.Buf-m.last)) {
		m.over = true
		return "!7"
	}
	if m.ahead == "" {
		return "no"
	}
	return "yes"
}

func (m *model) do(c rune) string {
	switch c {
	case 'C':
		return m.chunk()
	case 'L':
		return m.line()
	case 'M':
		return m.more()
	case 'F':
		return m.feed
	}
	m.last, m.ahead = 0, ""
	return "free"
}

func TestReaderAgainstAModel(t *testing.T) {
	c := chance{rand.New(rand.NewSource(5))}
	for range 20000 {
		m := &model{lim: lim(1+c.Intn(5), 1+c.Intn(5)), rest: c.text(40), signs: c.signs(mild+".....e", 30), feed: "none"}
		r := newRig(t, m.rest, m.lim, m.signs)
		in := stepio.New(r.p, 0)
		what, told := m.rest+" by "+m.signs, ""
		for _, call := range c.signs("CLLLLMMFX", 30) {
			told += string(call)
			if got, want := r.doOne(in, call), m.do(call); got != want {
				t.Fatalf("%q, Lim %v, %s: %q, not %q", what, m.lim, told, got, want)
			}
			r.held(what+" "+told, m.last+len(m.ahead))
			r.used(m.used)
			if n := r.watch.Peak(); n > m.lim.Line+m.lim.Buf {
				t.Fatalf("%q, Lim %v, %s: %d bytes were held", what, m.lim, told, n)
			}
		}
	}
}
