package ends_test

import (
	"reflect"
	"strings"
	"testing"

	"toolchest/api"
	"toolchest/ends"
	"toolchest/flow"
	"toolchest/proc"
)

func TestExamples(t *testing.T) {
	j := job("", "head -n 1 x y")
	j.Nodes = []api.Node{file("/x", "a\nb\n"), file("/y", "c\n")}
	comes(t, j, "==> x <==\na\n\n==> y <==\nc\n", "", 0)
	comes(t, job("a\nb", "tail -n 1"), "b", "", 0)
	comes(t, job("abc", "tail -c +2"), "bc", "", 0)
}

func TestOtherNames(t *testing.T) {
	for _, args := range [][]string{nil, {}, {""}, {"hea"}, {"heads"}, {"Head"}, {"TAIL"}, {"tail "}, {" tail"}, {"/head"}, {"x", "head"}, {"", "tail"}, {"cat"}, {"lines"}, {"-n"}} {
		j := job("q", "")
		j.Args = args
		if ends.Start(newRig(t, j).p) != nil {
			t.Errorf("%q was started", args)
		}
		if r, ok := ends.Run(j); ok || !reflect.DeepEqual(r, api.Result{}) {
			t.Errorf("%q was run: %v", args, r)
		}
	}
}

func TestJobsThatMayNotBe(t *testing.T) {
	for _, args := range []string{"head", "tail -c 1"} {
		for _, limits := range []api.Limits{{Buf: 0, Line: 1, Run: 1}, {Buf: 1<<40 + 1, Line: 1, Run: 1}, {Buf: 1, Line: 2, Run: 1}, {}} {
			j := job("q", args)
			j.Lim = limits
			if r, ok := ends.Run(j); ok || !reflect.DeepEqual(r, api.Result{}) {
				t.Errorf("%s, %v: it was run: %v", args, limits, r)
			}
		}
	}
}

// Limits that only a process may have that no job has run.
func TestLimitsThatMayNotBe(t *testing.T) {
	for _, buf := range []int{0, -1, -1 << 63} {
		for _, args := range []string{"head", "tail", "tail -n +1", "tail -c 1"} {
			j := job("q", args)
			j.Lim = api.Limits{Buf: buf}
			newRig(t, j).ends("", j.Args[0]+": -: invalid\n", 1)
		}
	}
}

func TestCwd(t *testing.T) {
	j := job("q", "head g ../f f")
	j.Cwd = "/d"
	comes(t, j, "==> g <==\ngg\n\n==> ../f <==\none\ntwo", "head: f: no such file\n", 1)
	j.Args = []string{"tail", "-n", "1", "../f"}
	newRig(t, j).ends("two", "", 0)
}

// With each step a call: nothing is seen of one ahead of it.
func TestStepByStep(t *testing.T) {
	for _, c := range []struct {
		args string
		told []string // ahead of the first step, and behind each
		held []int
	}{
		{
			"head -n 2 f e",
			[]string{"", "", "", "==> f <==\n", "==> f <==\none\n", "==> f <==\none\n", "==> f <==\none\ntwo", "==> f <==\none\ntwo", "==> f <==\none\ntwo"},
			[]int{0, 0, 4, 4, 0, 3, 0, 0, 0},
		},
		{"tail -n 2", []string{"", "", "", "", "c\n", "c\nde"}, []int{0, 4, 6, 4, 4, 0}},
		{"tail -c 3", []string{"", "", "", "", "\nde"}, []int{0, 3, 3, 3, 0}},
		{"tail -n +2", []string{"", "", "b\n", "b\n", "b\nc\nde", "b\nc\nde"}, []int{0, 4, 0, 4, 0, 0}},
	} {
		r := newRig(t, job("a\nb\nc\nde", c.args))
		m := ends.Start(r.p)
		for n := range c.told {
			if n > 0 {
				m.Step()
			}
			if out := string(r.k.Said(r.out)); out != c.told[n] || m.Held() != c.held[n] {
				t.Errorf("%s, step %d: told %q, %d held, not %q, %d", c.args, n, out, m.Held(), c.told[n], c.held[n])
			}
		}
	}
}

func TestKilled(t *testing.T) {
	for _, args := range []string{"head f", "tail", "tail -c 1 f"} {
		r := newRig(t, job("a\nb\nc\nd\n", args))
		m := ends.Start(r.p)
		m.Step()
		m.Step()
		m.Kill()
		if !m.Done() || m.Status() != 137 || m.Held() != 0 || len(r.p.Table().Fds()) != 0 {
			t.Errorf("%s: %v, %d, %d held, %v", args, m.Done(), m.Status(), m.Held(), r.p.Table().Fds())
		}
	}
}

// box starts these utilities, cat and the like, and by the name `test` what a test does.
type box struct{ main func(p *proc.Proc) int }

func (b box) Start(p *proc.Proc) *proc.Machine {
	p.In(b)
	if p.Args()[0] == "test" {
		return proc.Go(p, b.main)
	}
	if m := ends.Start(p); m != nil {
		return m
	}
	return flow.Start(p)
}

// pipe runs two commands, of which the second one reads what the first one writes: 1000 times the status of the first one, and that of the second one.
func pipe(first, second string) func(p *proc.Proc) int {
	return func(p *proc.Proc) int {
		from, to, _ := p.Pipe()
		a, _ := p.Spawn(strings.Fields(first), nil, "", []api.Move{{From: to, To: 1}, {From: -1, To: from}, {From: -1, To: to}})
		b, _ := p.Spawn(strings.Fields(second), nil, "", []api.Move{{From: from, To: 0}, {From: -1, To: from}, {From: -1, To: to}})
		p.Close(from)
		p.Close(to)
		one, _ := p.Wait(a)
		two, _ := p.Wait(b)
		return 1000*one + two
	}
}

// Children wait for pipes that are empty or full, and go on, whosever turn it is. Who writes to a head that has ended is ended, too.
func TestPipelines(t *testing.T) {
	long := strings.Repeat("ab cd\n", 100) + "e"
	for _, c := range []struct {
		first, second, out string
		status             int
	}{
		{"cat", "tail -n 2", "ab cd\ne", 0},
		{"cat", "tail -c 3", "d\ne", 0},
		{"cat", "tail -n +101", "e", 0},
		{"cat", "head -n 2", "ab cd\nab cd\n", 141000},
		{"cat", "head -n 1000", long, 0},
		{"head -n 3", "tail -n 1", "ab cd\n", 0},
		{"tail -n 3", "head -n 3", "ab cd\nab cd\ne", 0},
		{"tail -c +2", "head -n 1", "b cd\n", 141000},
		{"tail -n 60", "wc -l", "59\n", 0},
	} {
		for _, picks := range [][]int{nil, {0, 0, 0, 0, 0, 0, 0, 0, 0, 0}, {1, 1, 1, 1, 0, 0, 0, 1}, {1, 0, 2, 5, -1, 7, 7, 7}} {
			for buf := 1; buf < 200; buf += 66 {
				j := job(long, "test")
				j.Lim, j.Picks = lim(buf, 9), picks
				j.Faults = faults(strings.Repeat("1i3", 20))
				r, ok := proc.Run(j, box{pipe(c.first, c.second)}.Start)
				if !ok || string(r.Out) != c.out || len(r.Err) > 0 || r.Status != c.status {
					t.Errorf("%s | %s, Buf %d, Picks %v: %v, told %q, said %q, %d", c.first, c.second, buf, picks, ok, r.Out, r.Err, r.Status)
				}
			}
		}
	}
}

// Inputs of more than a few bytes.
func TestLong(t *testing.T) {
	in := strings.Repeat("word and word\n", 5000)
	for _, buf := range []int{1, 7, 4096, 1 << 40} {
		for _, c := range []struct{ args, out string }{
			{"head -n 3000", in[:14*3000]}, {"tail -n 3000", in[14*2000:]}, {"tail -n +3001", in[14*3000:]}, {"tail -c 30000", in[40000:]}, {"tail -c +30001", in[30000:]},
		} {
			j := job(in, c.args)
			j.Lim = lim(buf, 13)
			comes(t, j, c.out, "", 0)
		}
	}
}

// scribble changes bytes, and the room behind them.
func scribble(b []byte) {
	b = b[:cap(b)]
	for i := range b {
		b[i] = '#'
	}
}

// R4: a job is neither changed nor kept, the room behind its lists neither; what came of it is its owner's.
func TestNothingIsShared(t *testing.T) {
	for _, args := range []string{"head - f x", "head -n 1", "tail -n 2", "tail -n +2 f", "tail -c 3", "tail -c +1", "tail -x"} {
		fresh := func() api.Job {
			j := faulty("abc\ndef\n", args, "i1.2")
			j.Args = append(j.Args, "spare")[:len(j.Args)]
			j.In = append(j.In, "spare"...)[:len(j.In)]
			j.Env, j.Picks = []string{"A=1"}, []int{3, 1}
			return j
		}
		j := fresh()
		first, want := run(t, j), run(t, fresh())
		isAsItWas := func() bool {
			n, k := len(j.Args), len(j.In)
			return reflect.DeepEqual(j, fresh()) && j.Args[:n+1][n] == "spare" && string(j.In[:k+5][k:]) == "spare"
		}
		if !isAsItWas() {
			t.Errorf("%s: the job has changed: %v", args, j)
		}
		scribble(first.Out)
		scribble(first.Err)
		for _, n := range first.Nodes {
			scribble(n.Data)
		}
		clear(first.Nodes[:cap(first.Nodes)])
		if !isAsItWas() {
			t.Errorf("%s: the job shares with its result: %v", args, j)
		}
		if again := run(t, j); !reflect.DeepEqual(again, want) {
			t.Errorf("%s: %v, not %v", args, again, want)
		}
	}
}

// R4: a process that is started has its arguments for itself.
func TestArgumentsAreNotKept(t *testing.T) {
	j := job("q", "head f")
	r := newRig(t, j)
	j.Args[0], j.Args[1] = "tail", "e"
	scribble(j.In)
	r.ends("one\ntwo", "", 0)
}
