package proc_test

import (
	"math"
	"testing"

	"toolchest/api"
	"toolchest/proc"
)

// P4.6

const most = 1 << 40

func TestWhichJobsMayBe(t *testing.T) {
	lim := func(buf, line, run int) func(*api.Job) {
		return func(j *api.Job) { j.Lim = api.Limits{Buf: buf, Line: line, Run: run} }
	}
	cwd := func(s string) func(*api.Job) { return func(j *api.Job) { j.Cwd = s } }
	now := func(n int) func(*api.Job) { return func(j *api.Job) { j.Now = n } }
	args := func(l ...string) func(*api.Job) { return func(j *api.Job) { j.Args = l } }
	load := func(l ...api.Node) func(*api.Job) { return func(j *api.Job) { j.Nodes = l } }
	for _, c := range []struct {
		what   string
		change func(*api.Job)
		is     bool
	}{
		{"as it is", func(*api.Job) {}, true},
		{"no argument", args(), false},
		{"an argument without bytes", args(""), true},
		{"many arguments", args("a", "b", "c"), true},
		{"all limits 1", lim(1, 1, 1), true},
		{"all limits 2^40", lim(most, most, most), true},
		{"Buf 0", lim(0, 1, 1), false},
		{"Buf 2^40", lim(most, 1, 1), true},
		{"Buf above 2^40", lim(most+1, 1, 1), false},
		{"Buf below 0", lim(-1, 1, 1), false},
		{"Line 0", lim(1, 0, 1), false},
		{"Line below 0", lim(1, -1, 1), false},
		{"Line 2^40", lim(1, most, most), true},
		{"Line and Run above 2^40", lim(1, most+1, most+1), false},
		{"Run 0", lim(1, 1, 0), false},
		{"Run below 0", lim(1, math.MinInt, -1), false},
		{"Run 2^40", lim(1, 1, most), true},
		{"Run above 2^40", lim(1, 1, most+1), false},
		{"Run is Line", lim(1, 9, 9), true},
		{"Run above Line", lim(1, 9, 10), true},
		{"Run below Line", lim(1, 9, 8), false},
		{"Run below Buf", lim(9, 1, 2), true},
		{"greatest numbers", lim(math.MaxInt, math.MaxInt, math.MaxInt), false},
		{"no nodes", load(), true},
		{"a node without a parent", load(api.Node{Path: "/x/y"}), false},
		{"a node whose path may not be", load(api.Node{Path: "x"}), false},
		{"a node that is there twice", load(api.Node{Path: "/x"}, api.Node{Path: "/x"}), false},
		{"no Cwd", cwd(""), true},
		{"the root", cwd("/"), true},
		{"a directory", cwd("/d"), true},
		{"a directory from the root on", cwd("d/../d/"), true},
		{"a Cwd that is not there", cwd("/e"), false},
		{"a Cwd below what is not there", cwd("/e/.."), false},
		{"a file", cwd("/f"), false},
		{"a file with a stroke", cwd("/f/"), false},
		{"below a file", cwd("/f/x"), false},
		{"a Cwd with no name", cwd("/\x00"), false},
		{"Now 0", now(0), true},
		{"Now below 0", now(-1), false},
		{"Now at 2^40", now(most), true},
		{"Now above 2^40", now(most + 1), false},
	} {
		j := job("abc")
		c.change(&j)
		started := false
		r, is := proc.Run(j, func(p *proc.Proc) *proc.Machine {
			started = true
			return proc.Acts(p, []api.Act{copies(2), ends(4)})
		})
		if is != c.is || started != c.is {
			t.Errorf("%s: %v, started: %v", c.what, is, started)
		}
		if c.is {
			told(t, r, "ab", 4)
		} else {
			same(t, c.what, r, api.Result{})
		}
		if _, is := proc.RunActs(j, nil); is != c.is {
			t.Errorf("%s: RunActs: %v", c.what, is)
		}
	}
	_, is := proc.RunActs(api.Job{}, nil)
	same(t, "an empty job", is, false)
}

func TestStartThatAnswersNil(t *testing.T) {
	r, is := proc.Run(job("abc"), func(*proc.Proc) *proc.Machine { return nil })
	same(t, "Run", is, false)
	same(t, "Run", r, api.Result{})
}

// A process is told what its job has; it has a source and two sinks.
func TestWhatAJobHas(t *testing.T) {
	j := job("abc")
	j.Args, j.Env, j.Cwd, j.Now = []string{"u", "v"}, []string{"A=1"}, "/d", 77
	r := run(t, j, func(p *proc.Proc) int {
		same(t, "Args", p.Args(), j.Args)
		same(t, "Env", p.Env(), j.Env)
		same(t, "Cwd", p.Cwd(), "/d")
		same(t, "Lim", p.Lim(), limits)
		same(t, "Now", p.Kern().Now(), 77)
		fds(t, p.Table(), 0, 1, 2)
		b, _ := p.Read(0, 2)
		p.Write(1, b)
		p.Write(2, []byte("err"))
		p.Write(1, []byte("out"))
		p.Make("n", false, 0o600)
		p.Hold(8)
		p.Drop(8)
		_, e := p.Read(1, 1)
		is(t, "Read", e, api.ErrInval)
		return 300
	})
	n := nodes()
	want := api.Result{
		Out: []byte("about"), Err: []byte("err"), Status: 300, Steps: 6, Peak: 8,
		Nodes: []api.Node{n[0], n[2], {Path: "/d/n", Mode: 0o600, Tick: 77}, n[1]},
	}
	for k, ino := range []int{0, 2, 3, 4} {
		want.Nodes[k].Ino = ino
	}
	same(t, "the result", r, want)
}

func TestUsedFaults(t *testing.T) {
	l := []api.Act{tells("a"), tells("b")}
	r, _ := proc.RunActs(job("", faults(api.FaultIntr, api.FaultNone, api.FaultIO, api.FaultIO)...), l)
	same(t, "Used", r.Used, 3)
	told(t, r, "a", 1)
}

// A machine that start has stepped, or ended, goes on from there.
func TestStartThatSteps(t *testing.T) {
	l := []api.Act{tells("a"), copies(1), tells("b"), ends(2)}
	for n := range 6 {
		r, is := proc.Run(job("x"), func(p *proc.Proc) *proc.Machine {
			m := proc.Acts(p, l)
			for range n {
				m.Step()
			}
			return m
		})
		same(t, "Run", is, true)
		told(t, r, "axb", 2)
		same(t, "Steps", r.Steps, 4)
	}
	r, is := proc.Run(job("x"), func(p *proc.Proc) *proc.Machine {
		m := proc.Acts(p, l)
		m.Step()
		m.Kill()
		return m
	})
	same(t, "Run", is, true)
	told(t, r, "a", 137)
	same(t, "Steps", r.Steps, 1)
}

// A job is neither changed nor kept, and results are not shared.
func TestJobsAreNotShared(t *testing.T) {
	full := func() api.Job {
		j := job("abc", faults(api.FaultShort)...)
		j.Env, j.Picks = []string{"A=1"}, []int{1, 2}
		return j
	}
	j := full()
	main := func(p *proc.Proc) int {
		a, e := p.Args(), p.Env()
		a[0], e[0] = "x", "x"
		b, _ := p.Read(0, 3)
		b[0] = 'X'
		fd, _ := p.Open("/f", api.OpenAppend)
		p.Write(fd, []byte("++"))
		p.Write(1, []byte("abc"))
		return 0
	}
	first := run(t, j, main)
	same(t, "the job", j, full())
	second := run(t, j, main)
	same(t, "the second result", second, first)
	first.Out[0] = 'X'
	_ = append(first.Out[:1], 'Y')
	for _, n := range first.Nodes {
		clear(n.Data)
	}
	same(t, "the job", j, full())
	same(t, "the third result", run(t, j, main), second)

	var p *proc.Proc
	_, _ = proc.Run(j, func(q *proc.Proc) *proc.Machine {
		p = q
		return proc.Acts(p, nil)
	})
	j.Args[0], j.Env[0] = "x", "x"
	same(t, "Args", p.Args(), []string{"u"})
	same(t, "Env", p.Env(), []string{"A=1"})
}
