package logic_test

import (
	"reflect"
	"strings"
	"testing"

	"toolchest/api"
	"toolchest/flow"
	"toolchest/logic"
	"toolchest/proc"
)

func TestExamples(t *testing.T) {
	comes(t, job("test -z "), "", "", 0)
	comes(t, job("test ! a"), "", "", 1)
	comes(t, job("[ 2 -lt 10 ]"), "", "", 0)
	comes(t, job("[ 2 -gt 10 ]"), "", "", 1)
	comes(t, job("expr 1 + 2 * 3"), "7\n", "", 0)
	comes(t, job("expr abc : ab*"), "2\n", "", 0)
	comes(t, job("expr 1 / 0"), "", "expr: not a number\n", 2)
	comes(t, job("expr 0 | "), "0\n", "", 1)
	comes(t, job("expr 6 * 7"), "42\n", "", 0)
}

func TestOtherNames(t *testing.T) {
	for _, args := range [][]string{nil, {}, {""}, {"tes"}, {"tests"}, {"Test"}, {"test "}, {" test"}, {"/test"}, {"x", "test"}, {"", "test", "a"}, {"[]"}, {"[["}, {"]"}, {"(", "a", ")"}, {"exp"}, {"exprs"}, {"EXPR"}, {"expr\x00"}, {"echo"}, {"true"}, {"cat"}, {"!"}, {"-z"}, {"logic"}, {"1"}} {
		j := jobOf(args...)
		if logic.Start(newRig(t, j).p) != nil {
			t.Errorf("%q was started", args)
		}
		if r, ok := logic.Run(j); ok || !reflect.DeepEqual(r, api.Result{}) {
			t.Errorf("%q was run: %v", args, r)
		}
	}
}

func TestJobsThatMayNotBe(t *testing.T) {
	for _, args := range [][]string{{"test", "a"}, {"test"}, {"[", "]"}, {"["}, {"expr", "1"}, {"expr"}, {}} {
		for _, limits := range []api.Limits{{Buf: 0, Line: 1, Run: 1}, {Buf: 1<<40 + 1, Line: 1, Run: 1}, {Buf: 1, Line: 2, Run: 1}, {}} {
			j := jobOf(args...)
			j.Lim = limits
			if r, ok := logic.Run(j); ok || !reflect.DeepEqual(r, api.Result{}) {
				t.Errorf("%q, %v: it was run: %v", args, limits, r)
			}
		}
		j := jobOf(args...)
		j.Cwd = "/f"
		if r, ok := logic.Run(j); ok || !reflect.DeepEqual(r, api.Result{}) {
			t.Errorf("%q: it was run in a file: %v", args, r)
		}
	}
}

// R5: what a job reads, its environment, and whose turn it would be say nothing.
func TestNothingElseCounts(t *testing.T) {
	for _, args := range commands() {
		want := run(t, jobOf(args...))
		j := jobOf(args...)
		j.In, j.Env = nil, []string{"LC_ALL=C", "POSIXLY_CORRECT=1"}
		j.Lim, j.Now, j.Picks = api.Limits{Buf: 1 << 40, Line: 60, Run: 1 << 40}, 1<<40, []int{3, -1, 2}
		r := comes(t, j, string(want.Out), string(want.Err), want.Status)
		if r.Steps != want.Steps {
			t.Errorf("%q: %d steps, not %d", args, r.Steps, want.Steps)
		}
		if again := run(t, jobOf(args...)); !reflect.DeepEqual(again, want) {
			t.Errorf("%q: %v, not %v", args, again, want)
		}
	}
}

// scribble changes bytes, and the room behind them.
func scribble(b []byte) {
	b = b[:cap(b)]
	for i := range b {
		b[i] = '#'
	}
}

// R4: a job is neither changed nor kept, the room behind its lists neither; what came of it is its owner's.
func TestNothingIsShared(t *testing.T) {
	for _, args := range commands() {
		fresh := func() api.Job {
			j := jobOf(args...)
			j.Faults = faults("i1.2")
			j.Args = append(append([]string(nil), j.Args...), "spare")[:len(j.Args)]
			j.Env, j.Picks = []string{"A=1"}, []int{3, 1}
			return j
		}
		j := fresh()
		first, want := run(t, j), run(t, fresh())
		isAsItWas := func() bool {
			n := len(j.Args)
			return reflect.DeepEqual(j, fresh()) && j.Args[:n+1][n] == "spare"
		}
		if !isAsItWas() {
			t.Errorf("%q: the job has changed: %v", args, j)
		}
		scribble(first.Out)
		scribble(first.Err)
		for _, n := range first.Nodes {
			scribble(n.Data)
		}
		clear(first.Nodes[:cap(first.Nodes)])
		if !isAsItWas() {
			t.Errorf("%q: the job shares with its result: %v", args, j)
		}
		if again := run(t, j); !reflect.DeepEqual(again, want) {
			t.Errorf("%q: %v, not %v", args, again, want)
		}
	}
}

// R4: a process that is started has its arguments for itself.
func TestArgumentsAreNotKept(t *testing.T) {
	for args, want := range map[string]string{"expr 12 + 30": "42\n", "expr abc : .b": "2\n", "test x -eq 1": "test: x: not a number\n"} {
		j := job(args)
		r := newRig(t, j)
		m := r.start()
		others := []string{"expr", "a", "b", "c"}
		copy(j.Args, others)
		copy(r.p.Args(), others)
		for !m.Step() {
		}
		if got := string(r.k.Said(r.out)) + string(r.k.Said(r.err)); got != want {
			t.Errorf("%s: %q, not %q", args, got, want)
		}
	}
}

// A look at the tree is a step; what is told, and what is said, is told in one piece.
func TestStepByStep(t *testing.T) {
	type seen struct{ out, errs string }
	for _, c := range []struct {
		args, faults string
		seen         []seen // ahead of the first step, and behind each
		status       int
	}{
		{"test -e f", "", []seen{{}, {}}, 0},
		{"[ ! -e f ]", "", []seen{{}, {}}, 1},
		{"test x -eq 1", "", []seen{{}, {"", "test: x: not a number\n"}}, 2},
		{"test a b", "2", []seen{{}, {"", "te"}, {"", "test: usage\n"}}, 2},
		{"expr 6 * 7", "", []seen{{}, {"42\n", ""}}, 0},
		{"expr 6 * 7", "1i", []seen{{}, {"4", ""}, {"4", ""}, {"42\n", ""}}, 0},
		{"expr 0", "", []seen{{}, {"0\n", ""}}, 1},
		{"expr 1 / 0", "", []seen{{}, {"", "expr: not a number\n"}}, 2},
		{"expr 6 * 7", "1s", []seen{{}, {"4", ""}, {"4", ""}, {"4", "expr: standard output: no space left\n"}}, 3},
	} {
		r := newRig(t, faulty(c.faults, c.args))
		m := r.start()
		for n, want := range c.seen {
			if n > 0 && m.Step() != (n == len(c.seen)-1) {
				t.Errorf("%q, step %d: ended %v", c.args, n, m.Done())
			}
			if got := (seen{string(r.k.Said(r.out)), string(r.k.Said(r.err))}); got != want || m.Held() != 0 {
				t.Errorf("%q, step %d: %q, %d held, not %q", c.args, n, got, m.Held(), want)
			}
		}
		if !m.Done() || m.Status() != c.status || m.Peak() != 0 {
			t.Errorf("%q: %v, %d, not %d", c.args, m.Done(), m.Status(), c.status)
		}
	}
	// A process that makes no call has ended ahead of the first step.
	for args, status := range map[string]int{"test": 1, "test a": 0, "[ -n  ]": 1, "[ a = a ]": 0, "test 1 -lt 2": 0, "test ! 1 -lt 2": 1} {
		m := newRig(t, job(args)).start()
		if !m.Done() || m.Status() != status || m.Steps() != 0 {
			t.Errorf("%s: %v, %d, %d steps", args, m.Done(), m.Status(), m.Steps())
		}
	}
}

// What becomes of the tree ahead of a look at it is seen.
func TestTheTreeAsItIsThen(t *testing.T) {
	r := newRig(t, job("test -s new"))
	m := r.start()
	ino, e := r.k.Tree().Make("", "/new", false, 0o600, 1)
	if e != api.OK {
		t.Fatalf("Make: error %d", e)
	}
	r.k.Tree().Write(ino, 0, []byte("x"), 1)
	m.Step()
	if m.Status() != 0 {
		t.Errorf("%d", m.Status())
	}
}

func TestKilled(t *testing.T) {
	for _, args := range []string{"expr 6 * 7", "test -e f"} {
		r := newRig(t, faulty("1", args))
		m := r.start()
		m.Kill()
		if !m.Done() || m.Status() != 137 || len(r.p.Table().Fds()) != 0 || len(r.k.Said(r.out)) != 0 {
			t.Errorf("%v, %d, %v, told %q", m.Done(), m.Status(), r.p.Table().Fds(), r.k.Said(r.out))
		}
	}
}

// box starts these utilities, cat and the like, and by the name `sh` what a test does.
type box struct{ main func(p *proc.Proc) int }

func (b box) Start(p *proc.Proc) *proc.Machine {
	p.In(b)
	if p.Args()[0] == "sh" {
		return proc.Go(p, b.main)
	}
	if m := logic.Start(p); m != nil {
		return m
	}
	return flow.Start(p)
}

// pipe runs two commands, of which the second one reads what the first one writes: 1000 times the status of the first one, and that of the second one.
func pipe(first, second []string) func(p *proc.Proc) int {
	return func(p *proc.Proc) int {
		from, to, _ := p.Pipe()
		a, _ := p.Spawn(first, nil, "/d", []api.Move{{From: to, To: 1}, {From: -1, To: from}, {From: -1, To: to}})
		b, _ := p.Spawn(second, nil, "/", []api.Move{{From: from, To: 0}, {From: -1, To: from}, {From: -1, To: to}})
		p.Close(from)
		p.Close(to)
		one, _ := p.Wait(a)
		two, _ := p.Wait(b)
		return 1000*one + two
	}
}

// Children wait for pipes that are full, and go on, whosever turn it is; a path is taken from where each is.
func TestPipelines(t *testing.T) {
	long := strings.Repeat("x", 200)
	for _, c := range []struct {
		first, second string
		out, errs     string
		status        int
	}{
		{"expr 6 * 7", "cat", "42\n", "", 0},
		{"expr 7 - 7", "wc -c", "2\n", "", 1000},
		{"expr " + long, "cat", long + "\n", "", 0},
		{"expr 1 / 0", "cat", "", "expr: not a number\n", 2000},
		{"expr 1 +", "cat", "", "expr: usage\n", 2000},
		{"test -f x", "cat", "", "", 0},
		{"test -f d/x", "test -f d/x", "", "", 1000},
		{"[ a = b ]", "[ x -lt 1 ]", "", "[: x: not a number\n", 1002},
		// Nobody reads: a child is ended.
		{"expr 6 * 7", "test a", "", "", 141000},
		{"expr " + long, "test -e f", "", "", 141000},
		{"expr 0", "test ", "", "", 141001},
	} {
		for _, picks := range [][]int{nil, {0, 0, 0, 0, 0, 0, 0, 0, 0, 0}, {1, 1, 1, 1, 0, 0, 0, 1}, {1, 0, 2, 5, -1, 7, 7, 7}} {
			j := job("sh")
			j.Lim, j.Picks = api.Limits{Buf: 7, Line: 9, Run: 9}, picks
			r, ok := proc.Run(j, box{pipe(split(c.first), split(c.second))}.Start)
			if !ok || string(r.Out) != c.out || string(r.Err) != c.errs || r.Status != c.status {
				t.Errorf("%q | %q, Picks %v: %v, told %q, said %q, %d", c.first, c.second, picks, ok, r.Out, r.Err, r.Status)
			}
		}
	}
}
