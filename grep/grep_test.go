package grep_test

import (
	"reflect"
	"strconv"
	"strings"
	"testing"

	"toolchest/api"
	"toolchest/ends"
	"toolchest/flow"
	"toolchest/grep"
	"toolchest/proc"
	"toolchest/sortkit"
)

func TestExamples(t *testing.T) {
	tells(t, "a\nb\ncb\n", "grep -n b", "2:b\n3:cb\n")
	j := job("", "grep -c x f g")
	j.Nodes = []api.Node{file("/f", "x\n"), file("/g", "")}
	anyhow(t, j, "f:1\ng:0\n", "", 0)
	anyhow(t, job("a[\n", "grep ["), "", "grep: [: bad regular expression\n", 2)
	tells(t, "a[\n", "grep -F [", "a[\n")
	tells(t, "a\n", "grep -q z", "")
	anyhow(t, job("", "grep -c x nof"), "", "grep: nof: no such file\n", 2) // of the whole's tenth one
}

func TestOtherNames(t *testing.T) {
	for _, args := range [][]string{nil, {}, {""}, {"gre"}, {"greps"}, {"Grep"}, {"GREP"}, {"grep "}, {" grep"}, {"/grep"}, {"egrep"}, {"fgrep"}, {"x", "grep"}, {"", "grep"}, {"sed"}, {"cat"}, {"-c"}} {
		j := jobOf("q", args...)
		if grep.Start(newRig(t, j).p) != nil {
			t.Errorf("%q was started", args)
		}
		if r, ok := grep.Run(j); ok || !reflect.DeepEqual(r, api.Result{}) {
			t.Errorf("%q was run: %v", args, r)
		}
	}
}

func TestJobsThatMayNotBe(t *testing.T) {
	for _, limits := range []api.Limits{{Buf: 0, Line: 1, Run: 1}, {Buf: 1<<40 + 1, Line: 1, Run: 1}, {Buf: 1, Line: 2, Run: 1}, {}} {
		j := job("q", "grep q")
		j.Lim = limits
		if r, ok := grep.Run(j); ok || !reflect.DeepEqual(r, api.Result{}) {
			t.Errorf("%v: it was run: %v", limits, r)
		}
	}
}

// The greatest limits that a job may have, and the least.
func TestLimitsThatMayBe(t *testing.T) {
	for _, l := range []api.Limits{lim(1<<40, 1<<40), lim(1, 1), lim(1<<40, 1), lim(1, 1<<40)} {
		for _, c := range []struct{ args, out string }{{"grep -n b", "2:b\n3:b\n"}, {"grep -c b - e", "(standard input):2\ne:0\n"}, {"grep -f ab e -", "(standard input):a\n(standard input):b\n(standard input):b\n"}} {
			j := job("a\nb\nb", c.args)
			j.Lim = l
			comes(t, j, c.out, "", 0)
		}
	}
}

// Limits that only a process may have that no job has run.
func TestLimitsThatMayNotBe(t *testing.T) {
	for _, buf := range []int{0, -1, -1 << 63} {
		j := job("q", "grep q")
		j.Lim = api.Limits{Buf: buf}
		newRig(t, j).ends("", "grep: -: invalid\n", 2)
		j.Args = []string{"grep", "-f", "ab"}
		newRig(t, j).ends("", "grep: ab: invalid\n", 2)
	}
	for _, line := range []int{0, -1, -1 << 63} {
		j := job("q", "grep q")
		j.Lim = api.Limits{Buf: 1, Line: line}
		newRig(t, j).ends("", "grep: -: line too long\n", 2)
	}
	const most = 1<<63 - 1
	j := job("q\nq", "grep -c q")
	j.Lim = lim(most, most)
	newRig(t, j).ends("2\n", "", 0)
}

func TestCwd(t *testing.T) {
	j := job("q", "grep -f ../ab g ../f /f")
	j.Cwd = "/d"
	comes(t, j, "../f:a 1\n../f:b 2\n../f:ab 3\n/f:a 1\n/f:b 2\n/f:ab 3\n", "", 0)
	j.Args = []string{"grep", "g", "g", "f"}
	comes(t, j, "g:gg\n", "grep: f: no such file\n", 2)
	j.Args = []string{"grep", "-f", "ab", "g"}
	comes(t, j, "", "grep: ab: no such file\n", 2)
}

// With each step a call: nothing is seen of one ahead of it. What is held is what the reader holds.
func TestStepByStep(t *testing.T) {
	for _, c := range []struct {
		args string
		told string // in order; a stroke for each step
		held []int  // ahead of the first step, and behind each
	}{
		{"grep a", "|a\n|aa\n|", []int{0, 8, 4, 0, 0}},
		{"grep -v a", "|b\n|x\n|", []int{0, 6, 1, 0, 0}},
		{"grep -c a", "||2\n", []int{0, 0, 0, 0}},
		{"grep -q b", "", []int{0, 0}},
		{"grep -l b", "|(standard input)\n", []int{0, 6, 0}},
		{"grep -f ab d/g", "|||||||", []int{0, 0, 0, 0, 0, 0, 0, 0, 0}},
	} {
		j := job("a\nb\naa\nx\n", c.args)
		j.Lim = lim(60, 60)
		r := newRig(t, j)
		m := r.start()
		told := ""
		for n, piece := range append([]string{""}, strings.Split(c.told, "|")...) {
			if n > 0 {
				m.Step()
			}
			told += piece
			if n >= len(c.held) {
				t.Errorf("%s: more than %d steps", c.args, n)
				break
			}
			if out := string(r.k.Said(r.out)); out != told || m.Held() != c.held[n] {
				t.Errorf("%s, step %d: told %q, %d held, not %q, %d", c.args, n, out, m.Held(), told, c.held[n])
			}
		}
		if !m.Done() || m.Steps() != len(c.held)-1 {
			t.Errorf("%s: %v, %d steps", c.args, m.Done(), m.Steps())
		}
	}
}

func TestKilled(t *testing.T) {
	for _, args := range []string{"grep a", "grep -c a", "grep -f ab f h", "grep -v x h k"} {
		r := newRig(t, job("a\nb\nc\nd\ne\n", args))
		m := r.start()
		m.Step()
		m.Step()
		m.Kill()
		if !m.Done() || m.Status() != 137 || m.Held() != 0 || len(r.p.Table().Fds()) != 0 {
			t.Errorf("%s: %v, %d, %d held, %v", args, m.Done(), m.Status(), m.Held(), r.p.Table().Fds())
		}
	}
}

// box starts grep, cat and the like, sort, head, and by the name `test` what a test does.
type box struct{ main func(p *proc.Proc) int }

func (b box) Start(p *proc.Proc) *proc.Machine {
	p.In(b)
	if p.Args()[0] == "test" {
		return proc.Go(p, b.main)
	}
	for _, start := range []func(*proc.Proc) *proc.Machine{grep.Start, flow.Start, sortkit.Start} {
		if m := start(p); m != nil {
			return m
		}
	}
	return ends.Start(p)
}

// pipe runs two commands, of which the second one reads what the first one writes: 1000 times the status of the first one, and that of the second one.
func pipe(first, second string) func(p *proc.Proc) int {
	return func(p *proc.Proc) int {
		from, to, _ := p.Pipe()
		a, _ := p.Spawn(strings.Split(first, " "), nil, "", []api.Move{{From: to, To: 1}, {From: -1, To: from}, {From: -1, To: to}})
		b, _ := p.Spawn(strings.Split(second, " "), nil, "", []api.Move{{From: from, To: 0}, {From: -1, To: from}, {From: -1, To: to}})
		p.Close(from)
		p.Close(to)
		one, _ := p.Wait(a)
		two, _ := p.Wait(b)
		return 1000*one + two
	}
}

// Children wait for pipes that are empty or full, and go on, whosever turn it is.
func TestPipelines(t *testing.T) {
	long := strings.Repeat("a 1\nb 2\nab 3\n", 20)
	const big = 1000 // the status of a command that is the first one
	for _, c := range []struct {
		first, second, out, errs string
		status                   int
	}{
		{"cat", "grep a", strings.Repeat("a 1\nab 3\n", 20), "", 0},
		{"cat", "grep -c b", "40\n", "", 0},
		{"cat", "grep -vn [ab]", "", "", 1},
		{"cat", "grep -f - f", "a 1\nb 2\nab 3\n", "", 0},
		{"cat", "grep -q z", "", "", 1},
		{"cat", "grep -q 3", "", "", 141 * big}, // nobody reads the rest
		{"cat", "grep -l 1", "(standard input)\n", "", 141 * big},
		{"sort", "grep -n b", numbered(strings.Repeat("ab 3\n", 20)+strings.Repeat("b 2\n", 20), 21), "", 0},
		{"grep b", "wc -l", "40\n", "", 0},
		{"grep -n a", "head -n 1", "1:a 1\n", "", 141 * big},
		{"grep b", "grep -v 3", strings.Repeat("b 2\n", 20), "", 0},
		{"grep z", "grep -c z", "0\n", "", big + 1},
		{"grep -w", "cat", "", "grep: usage\n", 2 * big},
		{"cat", "grep [", "", "grep: [: bad regular expression\n", 141*big + 2},
		{"grep a x", "cat", "", noX, 2 * big},
	} {
		for _, picks := range [][]int{nil, {0, 0, 0, 0, 0, 0, 0, 0, 0, 0}, {1, 1, 1, 1, 0, 0, 0, 1}, {1, 0, 2, 5, -1, 7, 7, 7}} {
			for buf := 1; buf < 200; buf += 66 {
				j := job(long, "test")
				j.Lim, j.Picks = api.Limits{Buf: buf, Line: 20, Run: 1000}, picks
				j.Faults = faults(strings.Repeat("1i3", 20))
				r, ok := proc.Run(j, box{pipe(c.first, c.second)}.Start)
				if !ok || string(r.Out) != c.out || string(r.Err) != c.errs || r.Status != c.status {
					t.Errorf("%s | %s, Buf %d, Picks %v: %v, told %q, said %q, %d", c.first, c.second, buf, picks, ok, r.Out, r.Err, r.Status)
				}
			}
		}
	}
}

// numbered are lines as -n tells them, from a number on.
func numbered(s string, n int) string {
	var b strings.Builder
	for line := range strings.Lines(s) {
		b.WriteString(strconv.Itoa(n) + ":" + line)
		n++
	}
	return b.String()
}

// Inputs of more than a few bytes, lists of more than a few patterns.
func TestLong(t *testing.T) {
	in := strings.Repeat("word and word\n", 5000)
	for _, buf := range []int{1, 7, 4096, 1 << 40} {
		for _, c := range []struct{ args, out string }{
			{"grep and", in},
			{"grep -n ^w", numbered(in, 1)},
			{"grep -c word$ -", "5000\n"},
			{"grep -v x", in},
			{"grep -vc w e -", "e:0\n(standard input):0\n"},
		} {
			j := job(in, c.args)
			j.Lim = lim(buf, 13)
			status := 0
			if strings.HasSuffix(c.out, ":0\n") {
				status = 1
			}
			comes(t, j, c.out, "", status)
		}
	}
	line := strings.Repeat("ab", 1<<15)
	j := jobOf(line+"\nb"+line+"\n", "grep", "-En", "^(ab)*$")
	j.Lim = lim(4096, 1<<17)
	comes(t, j, "1:"+line+"\n", "", 0)
	var args []string
	var list strings.Builder
	for n := range 3000 {
		args = append(args, "-e", "p"+strconv.Itoa(n)+"$")
		list.WriteString("p" + strconv.Itoa(n) + "\n")
	}
	const few = "p0\nxp2999\np3000\np77x\n"
	comes(t, jobOf(few, append([]string{"grep"}, args...)...), "p0\nxp2999\n", "", 0)
	comes(t, jobOf(few, "grep", "-xF", list.String()), "p0\n", "", 0)
	j = jobOf(list.String(), "grep", "-vf", "-", "p")
	j.Nodes = append(j.Nodes, file("/p", few+"q\n"))
	comes(t, j, "q\n", "", 0)
}

// scribble changes bytes, and the room behind them.
func scribble(b []byte) {
	b = b[:cap(b)]
	for i := range b {
		b[i] = '#'
	}
}

// R4: a job is neither changed nor kept, the room behind its lists neither; what came of it is its owner's.
func TestNothingIsShared(t *testing.T) {
	for _, args := range []string{"grep b", "grep -n a - f", "grep -f ab f", "grep -f - f", "grep -c a x", "grep -l a f -", "grep -v [", "grep -qs a k", "grep -EF", "grep a\nb\n"} {
		fresh := func() api.Job {
			j := faulty("abc\ndef\n", args, "i1.2")
			j.Args = append(j.Args, "spare")[:len(j.Args)]
			j.In = append(j.In, "spare"...)[:len(j.In)]
			j.Env, j.Picks = []string{"A=1"}, []int{3, 1}
			return j
		}
		j := fresh()
		first, want := run(t, j), run(t, fresh())
		isAsItWas := func() bool {
			n, k := len(j.Args), len(j.In)
			return reflect.DeepEqual(j, fresh()) && j.Args[:n+1][n] == "spare" && string(j.In[:k+5][k:]) == "spare"
		}
		if !isAsItWas() {
			t.Errorf("%s: the job has changed: %v", args, j)
		}
		scribble(first.Out)
		scribble(first.Err)
		for _, n := range first.Nodes {
			scribble(n.Data)
		}
		clear(first.Nodes[:cap(first.Nodes)])
		if !isAsItWas() {
			t.Errorf("%s: the job shares with its result: %v", args, j)
		}
		if again := run(t, j); !reflect.DeepEqual(again, want) {
			t.Errorf("%s: %v, not %v", args, again, want)
		}
	}
}

// R4: a process that is started has its arguments for itself.
func TestArgumentsAreNotKept(t *testing.T) {
	j := job("a\nb\n", "grep -n b")
	r := newRig(t, j)
	j.Args[0], j.Args[1], j.Args[2] = "cat", "-v", "a"
	scribble(j.In)
	r.ends("2:b\n", "", 0)
}
