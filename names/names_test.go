package names_test

import (
	"reflect"
	"strings"
	"testing"

	"toolchest/api"
	"toolchest/flow"
	"toolchest/names"
	"toolchest/proc"
)

func TestExamples(t *testing.T) {
	tells(t, "-n a\n", "echo", "-n", "a")
	tells(t, "b\n", "basename", "/a/b.c", ".c")
	tells(t, "/a\n", "dirname", "/a//b/")
	says(t, "007,ab ,ff\n000,   ,0\n", "printf: x: not a number\n", 1, "printf", `%03d,%-3s,%x\n`, "7", "ab", "255", "x")
	tells(t, "pear\nfig\napple\nfig\n", "printf", `%s\n`, "pear", "fig", "apple", "fig")
}

// P19.1

func TestEcho(t *testing.T) {
	for _, c := range []struct {
		out  string
		args []string
	}{
		{"\n", nil},
		{"\n", []string{""}},
		{" \n", []string{"", ""}},
		{"  \n", []string{"", "", ""}},
		{"a\n", []string{"a"}},
		{"a b\n", []string{"a", "b"}},
		{"a  b\n", []string{"a", "", "b"}},
		{" a \n", []string{"", "a", ""}},
		{"a b c d\n", []string{"a b", "c d"}},
		{" a \t \n", []string{" a", "\t", ""}},
		{"one\n two\n\n", []string{"one\n", "two\n"}},
		{"-n\n", []string{"-n"}},
		{"-n a\n", []string{"-n", "a"}},
		{"a -n\n", []string{"a", "-n"}},
		{"-e -E -nE a\n", []string{"-e", "-E", "-nE", "a"}},
		{"-\n", []string{"-"}},
		{"- -\n", []string{"-", "-"}},
		{"--\n", []string{"--"}},
		{"-- a\n", []string{"--", "a"}},
		{"-- -- -n\n", []string{"--", "--", "-n"}},
		{"--help\n", []string{"--help"}},
		{"-x: --version\n", []string{"-x:", "--version"}},
		{`\` + "\n", []string{`\`}},
		{`a\nb\tc\0101 \c d` + "\n", []string{`a\nb\tc\0101`, `\c`, `d`}},
		{`\\ \` + "\n", []string{`\\`, `\`}},
		{"%s %d %%\n", []string{"%s", "%d", "%%"}},
		{"\x00 \xff\xfe ä\n", []string{"\x00", "\xff\xfe", "ä"}},
		{"f /a/b\n", []string{"f", "/a/b"}},
	} {
		tells(t, c.out, append([]string{"echo"}, c.args...)...)
	}
	many := make([]string, 5000)
	for i := range many {
		many[i] = "ab"
	}
	tells(t, strings.Repeat("ab ", 4999)+"ab\n", append([]string{"echo"}, many...)...)
}

func TestTrueAndFalse(t *testing.T) {
	for _, args := range []string{"", "a", "a b c", "-n", "-x -y", "--", "-- -a", "-", "--help --version", "0", "1", "-1", "f x", "\\ %d"} {
		l := strings.Fields(args)
		says(t, "", "", 0, append([]string{"true"}, l...)...)
		says(t, "", "", 1, append([]string{"false"}, l...)...)
	}
	says(t, "", "", 0, "true", "", "")
	says(t, "", "", 1, "false", "", "")
	says(t, "", "", 1, "false", "false", "\xff")
	// A process that makes no call has ended ahead of the first step.
	for name, status := range map[string]int{"true": 0, "false": 1} {
		m := newRig(t, job(name, "-x")).start()
		if !m.Done() || m.Status() != status || m.Steps() != 0 {
			t.Errorf("%s: %v, %d, %d steps", name, m.Done(), m.Status(), m.Steps())
		}
	}
}

func TestOtherNames(t *testing.T) {
	for _, args := range [][]string{nil, {}, {""}, {"ech"}, {"echoes"}, {"Echo"}, {"echo "}, {" echo"}, {"/echo"}, {"x", "echo"}, {"", "echo", "a"}, {"cat"}, {"base"}, {"dir"}, {"basenames"}, {"DIRNAME"}, {"printf\x00"}, {"print"}, {"True"}, {"fals"}, {":"}, {"test"}, {"["}, {"expr"}, {"names"}, {"-n"}} {
		j := job(args...)
		if names.Start(newRig(t, j).p) != nil {
			t.Errorf("%q was started", args)
		}
		if r, ok := names.Run(j); ok || !reflect.DeepEqual(r, api.Result{}) {
			t.Errorf("%q was run: %v", args, r)
		}
	}
}

func TestJobsThatMayNotBe(t *testing.T) {
	for _, args := range [][]string{{"echo", "a"}, {"true"}, {"false"}, {"basename", "a"}, {"dirname", "a"}, {"printf", "a"}, {"printf"}, {}} {
		for _, limits := range []api.Limits{{Buf: 0, Line: 1, Run: 1}, {Buf: 1<<40 + 1, Line: 1, Run: 1}, {Buf: 1, Line: 2, Run: 1}, {}} {
			j := job(args...)
			j.Lim = limits
			if r, ok := names.Run(j); ok || !reflect.DeepEqual(r, api.Result{}) {
				t.Errorf("%q, %v: it was run: %v", args, limits, r)
			}
		}
		j := job(args...)
		j.Cwd = "/f"
		if r, ok := names.Run(j); ok || !reflect.DeepEqual(r, api.Result{}) {
			t.Errorf("%q: it was run in a file: %v", args, r)
		}
	}
}

// commands are of every kind.
func commands() [][]string {
	return [][]string{
		{"echo"}, {"echo", "-n", "a", "", `b\n`}, {"true", "a"}, {"false", "-a"},
		{"basename", "/a/b.c", ".c"}, {"basename", "--", "-a/"}, {"basename"}, {"basename", "-a"}, {"dirname", "/a/b"}, {"dirname", "a", "b"},
		{"printf", ""}, {"printf"}, {"printf", "%"}, {"printf", "plain", "a"}, {"printf", `%s:%d\n`, "a", "1", "b", "x", "c"},
		{"printf", `%s%b%s`, "a", `b\cc`, "d"}, {"printf", `%d %x %o|`, "y", "08", "1.5", "--1", "0x", "-0x10", ""}, {"printf", "%5d%s%%", "z", "%d"},
	}
}

// R5: what a job reads, where it is, and whose turn it would be say nothing.
func TestNothingElseCounts(t *testing.T) {
	for _, args := range commands() {
		want := run(t, job(args...))
		j := job(args...)
		j.In, j.Nodes, j.Cwd, j.Env = nil, []api.Node{{Path: "/q", Dir: true}, file("/q/x", "y")}, "/q", []string{"LC_ALL=C", "POSIXLY_CORRECT=1"}
		j.Lim, j.Now, j.Picks = api.Limits{Buf: 1 << 40, Line: 60, Run: 1 << 40}, 1<<40, []int{3, -1, 2}
		r := comes(t, j, string(want.Out), string(want.Err), want.Status)
		if r.Steps != want.Steps {
			t.Errorf("%q: %d steps, not %d", args, r.Steps, want.Steps)
		}
		if again := run(t, job(args...)); !reflect.DeepEqual(again, want) {
			t.Errorf("%q: %v, not %v", args, again, want)
		}
	}
}

// scribble changes bytes, and the room behind them.
func scribble(b []byte) {
	b = b[:cap(b)]
	for i := range b {
		b[i] = '#'
	}
}

// R4: a job is neither changed nor kept, the room behind its lists neither; what came of it is its owner's.
func TestNothingIsShared(t *testing.T) {
	for _, args := range commands() {
		fresh := func() api.Job {
			j := faulty("i1.2", args...)
			j.Args = append(append([]string(nil), j.Args...), "spare")[:len(j.Args)]
			j.Env, j.Picks = []string{"A=1"}, []int{3, 1}
			return j
		}
		j := fresh()
		first, want := run(t, j), run(t, fresh())
		isAsItWas := func() bool {
			n := len(j.Args)
			return reflect.DeepEqual(j, fresh()) && j.Args[:n+1][n] == "spare"
		}
		if !isAsItWas() {
			t.Errorf("%q: the job has changed: %v", args, j)
		}
		scribble(first.Out)
		scribble(first.Err)
		for _, n := range first.Nodes {
			scribble(n.Data)
		}
		clear(first.Nodes[:cap(first.Nodes)])
		if !isAsItWas() {
			t.Errorf("%q: the job shares with its result: %v", args, j)
		}
		if again := run(t, j); !reflect.DeepEqual(again, want) {
			t.Errorf("%q: %v, not %v", args, again, want)
		}
	}
}

// R4: a process that is started has its arguments for itself.
func TestArgumentsAreNotKept(t *testing.T) {
	j := job("printf", "%d-%s;", "x", "a", "2", "b")
	r := newRig(t, j)
	m := r.start()
	copy(j.Args, []string{"echo", "%", "7", "q", "r", "s"})
	copy(r.p.Args(), []string{"echo", "%", "7", "q", "r", "s"})
	for !m.Step() {
	}
	if out, errs := r.k.Said(r.out), r.k.Said(r.err); string(out) != "0-a;2-b;" || string(errs) != "printf: x: not a number\n" {
		t.Errorf("told %q, said %q", out, errs)
	}
}

// What is told is told in one piece, when all is known; lines of errors are ahead of it.
func TestStepByStep(t *testing.T) {
	type seen struct{ out, errs string }
	for _, c := range []struct {
		args   []string
		faults string
		seen   []seen // ahead of the first step, and behind each
	}{
		{[]string{"echo", "a", "b"}, "", []seen{{}, {"a b\n", ""}}},
		{[]string{"echo", "a", "b"}, "2i", []seen{{}, {"a ", ""}, {"a ", ""}, {"a b\n", ""}}},
		{[]string{"basename", "a/b"}, "", []seen{{}, {"b\n", ""}}},
		{[]string{"dirname", "a/b"}, "1", []seen{{}, {"a", ""}, {"a\n", ""}}},
		{[]string{"printf", `%s\n%d-`, "a", "1", "b", "2"}, "", []seen{{}, {"a\n1-b\n2-", ""}}},
		{[]string{"printf", `%s\n%d-`, "a", "x", "b", "2", "c", "y"}, "", []seen{{}, {"", "printf: x: not a number\n"}, {"", "printf: x: not a number\nprintf: y: not a number\n"}, {"a\n0-b\n2-c\n0-", "printf: x: not a number\nprintf: y: not a number\n"}}},
		{[]string{"printf", "%s"}, "", []seen{{}}},
		{[]string{"printf", "%.0d", "x"}, "", []seen{{}, {"", "printf: x: not a number\n"}}},
		{[]string{"printf", "a%"}, "", []seen{{}, {"", "printf: usage\n"}}},
	} {
		j := job(c.args...)
		j.Faults = faults(c.faults)
		r := newRig(t, j)
		m := r.start()
		for n, want := range c.seen {
			if n > 0 && m.Step() != (n == len(c.seen)-1) {
				t.Errorf("%q, step %d: ended %v", c.args, n, m.Done())
			}
			if got := (seen{string(r.k.Said(r.out)), string(r.k.Said(r.err))}); got != want || m.Held() != 0 {
				t.Errorf("%q, step %d: %q, %d held, not %q", c.args, n, got, m.Held(), want)
			}
		}
		if !m.Done() {
			t.Errorf("%q has not ended", c.args)
		}
	}
}

func TestKilled(t *testing.T) {
	r := newRig(t, job("printf", "%d", "x", "y"))
	m := r.start()
	m.Step()
	m.Kill()
	if !m.Done() || m.Status() != 137 || len(r.p.Table().Fds()) != 0 || len(r.k.Said(r.out)) != 0 {
		t.Errorf("%v, %d, %v, told %q", m.Done(), m.Status(), r.p.Table().Fds(), r.k.Said(r.out))
	}
}

// box starts these utilities, cat and the like, and by the name `test` what a test does.
type box struct{ main func(p *proc.Proc) int }

func (b box) Start(p *proc.Proc) *proc.Machine {
	p.In(b)
	if p.Args()[0] == "test" {
		return proc.Go(p, b.main)
	}
	if m := names.Start(p); m != nil {
		return m
	}
	return flow.Start(p)
}

// pipe runs two commands, of which the second one reads what the first one writes: 1000 times the status of the first one, and that of the second one.
func pipe(first, second []string) func(p *proc.Proc) int {
	return func(p *proc.Proc) int {
		from, to, _ := p.Pipe()
		a, _ := p.Spawn(first, nil, "", []api.Move{{From: to, To: 1}, {From: -1, To: from}, {From: -1, To: to}})
		b, _ := p.Spawn(second, nil, "", []api.Move{{From: from, To: 0}, {From: -1, To: from}, {From: -1, To: to}})
		p.Close(from)
		p.Close(to)
		one, _ := p.Wait(a)
		two, _ := p.Wait(b)
		return 1000*one + two
	}
}

// Children wait for pipes that are full, and go on, whosever turn it is.
func TestPipelines(t *testing.T) {
	cat := []string{"cat"}
	words := strings.Fields(strings.Repeat("one two three ", 40))
	for _, c := range []struct {
		first, second []string
		out, errs     string
		status        int
	}{
		{append([]string{"echo"}, words...), cat, strings.Join(words, " ") + "\n", "", 0},
		{append([]string{"printf", `%5s|%b\n`}, words...), []string{"wc", "-c"}, "640\n", "", 0},
		{[]string{"printf", "%0200d", "x"}, cat, strings.Repeat("0", 200), "printf: x: not a number\n", 1000},
		{[]string{"printf", "%"}, cat, "", "printf: usage\n", 1000},
		{[]string{"basename", "a/b", "b"}, cat, "b\n", "", 0},
		{[]string{"dirname", strings.Repeat("a", 100) + "/b"}, cat, strings.Repeat("a", 100) + "\n", "", 0},
		{[]string{"false"}, cat, "", "", 1000},
		{[]string{"true"}, []string{"false"}, "", "", 1},
		// Nobody reads: a child is ended.
		{[]string{"echo", "a"}, []string{"false"}, "", "", 141001},
		{append([]string{"printf", "%d%s"}, words[:4]...), []string{"true"}, "", "printf: one: not a number\nprintf: three: not a number\n", 141000},
		{append([]string{"echo"}, words...), []string{"echo", "q"}, "q\n", "", 141000},
	} {
		for _, picks := range [][]int{nil, {0, 0, 0, 0, 0, 0, 0, 0, 0, 0}, {1, 1, 1, 1, 0, 0, 0, 1}, {1, 0, 2, 5, -1, 7, 7, 7}} {
			j := job("test")
			j.Lim, j.Picks = api.Limits{Buf: 7, Line: 9, Run: 9}, picks
			r, ok := proc.Run(j, box{pipe(c.first, c.second)}.Start)
			if !ok || string(r.Out) != c.out || string(r.Err) != c.errs || r.Status != c.status {
				t.Errorf("%q | %q, Picks %v: %v, told %q, said %q, %d", c.first, c.second, picks, ok, r.Out, r.Err, r.Status)
			}
		}
	}
}
