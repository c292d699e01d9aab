package merge_test

import (
	"reflect"
	"slices"
	"strings"
	"testing"

	"toolchest/api"
	"toolchest/ends"
	"toolchest/flow"
	"toolchest/merge"
	"toolchest/proc"
	"toolchest/sortkit"
)

func TestExamples(t *testing.T) {
	comes(t, job("a\na\nb\n", "uniq -c"), "2 a\n1 b\n", "", 0)
	comes(t, two("a\nc\n", "b\nc\n", "comm"), "a\n\tb\n\t\tc\n", "", 0)
	comes(t, two("1 p\n2 q\n", "2 r\n2 s\n", "join", "-a", "1"), "1 p\n2 q r\n2 q s\n", "", 0)
	comes(t, two("a 1\nb 2\n", "a p\nb q\n", "join"), "a 1 p\nb 2 q\n", "", 0) // the whole's sixth one
}

func TestOtherNames(t *testing.T) {
	for _, args := range [][]string{nil, {}, {""}, {"uni"}, {"uniqs"}, {"Uniq"}, {"COMM"}, {"comm "}, {" join"}, {"/join"}, {"x", "uniq"}, {"", "comm"}, {"sort"}, {"cat"}, {"merge"}, {"-c"}} {
		j := jobOf("q", args...)
		if merge.Start(newRig(t, j).p) != nil {
			t.Errorf("%q was started", args)
		}
		if r, ok := merge.Run(j); ok || !reflect.DeepEqual(r, api.Result{}) {
			t.Errorf("%q was run: %v", args, r)
		}
	}
}

func TestJobsThatMayNotBe(t *testing.T) {
	for _, args := range []string{"uniq", "comm f h", "join f h"} {
		for _, limits := range []api.Limits{{Buf: 0, Line: 1, Run: 1}, {Buf: 1<<40 + 1, Line: 1, Run: 1}, {Buf: 1, Line: 2, Run: 1}, {}} {
			j := job("q", args)
			j.Lim = limits
			if r, ok := merge.Run(j); ok || !reflect.DeepEqual(r, api.Result{}) {
				t.Errorf("%s, %v: it was run: %v", args, limits, r)
			}
		}
	}
}

// The greatest limits that a job may have, and the least.
func TestLimitsThatMayBe(t *testing.T) {
	for _, l := range []api.Limits{lim(1<<40, 1<<40), lim(1, 1), lim(1<<40, 1), lim(1, 1<<40)} {
		for _, c := range []struct{ args, out string }{{"uniq -c", "1 a\n2 b\n"}, {"comm - e", "a\nb\nb\n"}, {"join -a 1 - e", "a\nb\nb\n"}} {
			j := job("a\nb\nb", c.args)
			j.Lim = l
			comes(t, j, c.out, "", 0)
		}
	}
}

// Limits that only a process may have that no job has run.
func TestLimitsThatMayNotBe(t *testing.T) {
	for _, buf := range []int{0, -1, -1 << 63} {
		for _, c := range []struct {
			args   string
			status int
		}{{"uniq", 1}, {"comm - x", 2}, {"join - x", 2}} {
			j := job("q", c.args)
			j.Lim = api.Limits{Buf: buf}
			errs := j.Args[0] + ": -: invalid\n"
			if c.status == 2 {
				errs += j.Args[0] + ": x: no such file\n"
			}
			newRig(t, j).ends("", errs, c.status)
		}
	}
	for _, line := range []int{0, -1, -1 << 63} {
		j := job("q", "uniq")
		j.Lim = api.Limits{Buf: 1, Line: line}
		newRig(t, j).ends("", "uniq: -: line too long\n", 1)
	}
	const most = 1<<63 - 1
	j := job("q\nq", "uniq -c")
	j.Lim = lim(most, most)
	newRig(t, j).ends("2 q\n", "", 0)
}

func TestCwd(t *testing.T) {
	j := job("q", "comm g ../f")
	j.Cwd = "/d"
	comes(t, j, "\ta 1\n\ta 2\n\tb 3\n\td 4\ngg\n", "", 0)
	j.Args = strings.Fields("join ../f f")
	comes(t, j, "", "join: f: no such file\n", 2)
	j.Args = strings.Fields("uniq g z")
	comesTo(t, j, api.Result{Nodes: with(j.Nodes, "/d/z", "gg\n")})
}

// With each step a call: nothing is seen of one ahead of it. What is held is what the readers hold, the first line of uniq's group, and join's key and groups, as long as they are paired.
func TestStepByStep(t *testing.T) {
	const x, y = "a 1\na 2\nb 3\n", "a 4\nb 5\n"
	for _, c := range []struct {
		job  api.Job
		told string // in order; a stroke for each step
		held []int  // ahead of the first step, and behind each
	}{
		{job("aa\naa\nb\nccc\n", "uniq -c"), "|2 aa\n|1 b\n||1 ccc\n", []int{0, 7, 4, 3, 3, 0}},
		{two("a\nc\n", "b\nc\n", "comm"), "||||a\n|\tb\n|\t\tc\n||", []int{0, 0, 3, 3, 6, 4, 2, 1, 0, 0}},
		{two(x, y, "join"), "||||a 1 4\n|a 2 4\n|||b 3 5\n", []int{0, 0, 11, 11, 16, 16, 7, 7, 7, 0}},
		{two(x, y, "join", "-v", "1"), "|||||", []int{0, 0, 11, 11, 4, 1, 0}},
		{two("b 1\n", "a 2\n", "join", "-a2"), "||||a 2\n||", []int{0, 0, 3, 3, 6, 3, 0, 0}},
	} {
		c.job.Lim = lim(60, 60)
		r := newRig(t, c.job)
		m := r.start()
		told := ""
		for n, piece := range append([]string{""}, strings.Split(c.told, "|")...) {
			if n > 0 {
				m.Step()
			}
			told += piece
			if out := string(r.k.Said(r.out)); out != told || m.Held() != c.held[n] {
				t.Errorf("%q, step %d: told %q, %d held, not %q, %d", c.job.Args, n, out, m.Held(), told, c.held[n])
			}
		}
		if !m.Done() || m.Steps() != len(c.held)-1 {
			t.Errorf("%q: %v, %d steps", c.job.Args, m.Done(), m.Steps())
		}
	}
}

func TestKilled(t *testing.T) {
	for _, args := range []string{"uniq", "uniq - z", "comm f h", "join f h"} {
		r := newRig(t, job("a\nb\nc\nd\n", args))
		m := r.start()
		m.Step()
		m.Step()
		m.Kill()
		if !m.Done() || m.Status() != 137 || m.Held() != 0 || len(r.p.Table().Fds()) != 0 {
			t.Errorf("%s: %v, %d, %d held, %v", args, m.Done(), m.Status(), m.Held(), r.p.Table().Fds())
		}
	}
}

// box starts these utilities, cat and the like, sort, head, and by the name `test` what a test does.
type box struct{ main func(p *proc.Proc) int }

func (b box) Start(p *proc.Proc) *proc.Machine {
	p.In(b)
	if p.Args()[0] == "test" {
		return proc.Go(p, b.main)
	}
	for _, start := range []func(*proc.Proc) *proc.Machine{merge.Start, flow.Start, sortkit.Start} {
		if m := start(p); m != nil {
			return m
		}
	}
	return ends.Start(p)
}

// pipe runs two commands, of which the second one reads what the first one writes: 1000 times the status of the first one, and that of the second one.
func pipe(first, second string) func(p *proc.Proc) int {
	return func(p *proc.Proc) int {
		from, to, _ := p.Pipe()
		a, _ := p.Spawn(strings.Fields(first), nil, "", []api.Move{{From: to, To: 1}, {From: -1, To: from}, {From: -1, To: to}})
		b, _ := p.Spawn(strings.Fields(second), nil, "", []api.Move{{From: from, To: 0}, {From: -1, To: from}, {From: -1, To: to}})
		p.Close(from)
		p.Close(to)
		one, _ := p.Wait(a)
		two, _ := p.Wait(b)
		return 1000*one + two
	}
}

// Children wait for pipes that are empty or full, and go on, whosever turn it is.
func TestPipelines(t *testing.T) {
	long := strings.Repeat("a 1\na 2\nb 3\n", 20)
	for _, c := range []struct {
		first, second, out, errs string
		status                   int
	}{
		{"cat", "uniq", long, "", 0},
		{"sort", "uniq -c", "20 a 1\n20 a 2\n20 b 3\n", "", 0},
		{"sort", "uniq -s 9", "a 1\n", "", 0},
		{"sort", "comm -13 f -", strings.Repeat("a 1\n", 19) + strings.Repeat("a 2\n", 19) + strings.Repeat("b 3\n", 19), "", 0},
		{"uniq -f 9", "join - h", "a 1 x\n", "", 0},
		{"join - h", "uniq -c", "1 a 1 x\n1 a 2 x\n", "", 0},
		{"comm - e", "wc -l", "60\n", "", 0},
		{"comm - f", "head -n 1", "\t\ta 1\n", "", 141000}, // nobody reads the rest
		{"cat", "uniq -x", "", "uniq: usage\n", 141001},
		{"cat", "join -", "", "join: usage\n", 141002},
		{"comm x e", "uniq", "", "comm: x: no such file\n", 2000},
	} {
		for _, picks := range [][]int{nil, {0, 0, 0, 0, 0, 0, 0, 0, 0, 0}, {1, 1, 1, 1, 0, 0, 0, 1}, {1, 0, 2, 5, -1, 7, 7, 7}} {
			for buf := 1; buf < 200; buf += 66 {
				j := job(long, "test")
				j.Lim, j.Picks = api.Limits{Buf: buf, Line: 20, Run: 1000}, picks
				j.Faults = faults(strings.Repeat("1i3", 20))
				r, ok := proc.Run(j, box{pipe(c.first, c.second)}.Start)
				if !ok || string(r.Out) != c.out || string(r.Err) != c.errs || r.Status != c.status {
					t.Errorf("%s | %s, Buf %d, Picks %v: %v, told %q, said %q, %d", c.first, c.second, buf, picks, ok, r.Out, r.Err, r.Status)
				}
			}
		}
	}
}

// Inputs of more than a few bytes, groups of more than a few lines, lines of more than a few fields.
func TestLong(t *testing.T) {
	in := strings.Repeat("word and word\n", 5000)
	for _, buf := range []int{1, 7, 4096, 1 << 40} {
		for _, c := range []struct{ args, out string }{
			{"uniq -c", "5000 word and word\n"},
			{"uniq -f 2147483647", "word and word\n"},
			{"comm - e", in},
			{"comm e -", strings.ReplaceAll(in, "word and", "\tword and")},
			{"join -a 1 - e", in},
			{"join -v 2 - d/g", "gg\n"},
		} {
			j := job(in, c.args)
			j.Lim = lim(buf, 13)
			comes(t, j, c.out, "", 0)
		}
	}
	j := two(strings.Repeat("k 1\n", 100), strings.Repeat("k 2\n", 100), "join")
	comes(t, j, strings.Repeat("k 1 2\n", 100*100), "", 0)
	fields := strings.Repeat("f ", 20000)
	j = two("a "+fields+"\n", "a "+fields, "join", "-o", "1.20001,0,2.20002,2.2", "-e", "-")
	j.Lim = lim(4096, 1<<20)
	comes(t, j, "f a - f\n", "", 0)
	j = two("a "+fields+"\n", "a "+fields, "join")
	j.Lim = lim(4096, 1<<20)
	comes(t, j, "a "+strings.TrimSuffix(fields+fields, " ")+"\n", "", 0)
	j = two("a b\n", "a c\n", "join", "-o", strings.Repeat("0,1.2 2.2\t", 5000)+"0")
	comes(t, j, strings.Repeat("a b c ", 5000)+"a\n", "", 0)
	j = jobOf("x 1\ny 1\n", slices.Concat([]string{"uniq"}, slices.Repeat([]string{"-f", "7"}, 5000), []string{"-f1"})...)
	comes(t, j, "x 1\n", "", 0)
}

// scribble changes bytes, and the room behind them.
func scribble(b []byte) {
	b = b[:cap(b)]
	for i := range b {
		b[i] = '#'
	}
}

// R4: a job is neither changed nor kept, the room behind its lists neither; what came of it is its owner's.
func TestNothingIsShared(t *testing.T) {
	for _, args := range []string{"uniq", "uniq -c", "uniq -f 1 f z", "uniq - f", "uniq x", "comm - f", "comm -3 f -", "comm x -", "join f h", "join -a 1 -t a - f", "join -o 0,1.2 -e - -v 2 f -", "join -x"} {
		fresh := func() api.Job {
			j := faulty("abc\ndef\n", args, "i1.2")
			j.Args = append(j.Args, "spare")[:len(j.Args)]
			j.In = append(j.In, "spare"...)[:len(j.In)]
			j.Env, j.Picks = []string{"A=1"}, []int{3, 1}
			return j
		}
		j := fresh()
		first, want := run(t, j), run(t, fresh())
		isAsItWas := func() bool {
			n, k := len(j.Args), len(j.In)
			return reflect.DeepEqual(j, fresh()) && j.Args[:n+1][n] == "spare" && string(j.In[:k+5][k:]) == "spare"
		}
		if !isAsItWas() {
			t.Errorf("%s: the job has changed: %v", args, j)
		}
		scribble(first.Out)
		scribble(first.Err)
		for _, n := range first.Nodes {
			scribble(n.Data)
		}
		clear(first.Nodes[:cap(first.Nodes)])
		if !isAsItWas() {
			t.Errorf("%s: the job shares with its result: %v", args, j)
		}
		if again := run(t, j); !reflect.DeepEqual(again, want) {
			t.Errorf("%s: %v, not %v", args, again, want)
		}
	}
}

// R4: a process that is started has its arguments for itself.
func TestArgumentsAreNotKept(t *testing.T) {
	j := job("a\na\n", "uniq -c")
	r := newRig(t, j)
	j.Args[0], j.Args[1] = "comm", "-1"
	scribble(j.In)
	r.ends("2 a\n", "", 0)
}
