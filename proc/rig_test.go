package proc_test

import (
	"reflect"
	"slices"
	"strconv"
	"testing"

	"toolchest/api"
	"toolchest/kern"
	"toolchest/proc"
	"toolchest/tree"
)

const tick = 9

var limits = api.Limits{Buf: 4, Line: 5, Run: 6}

// nodes are the directory /d, the files /f (`hello`) and /d/g (`gg`).
func nodes() []api.Node {
	return []api.Node{
		{Path: "/d", Dir: true, Mode: 0o755, Tick: 7},
		{Path: "/f", Mode: 0o600, Tick: 7, Data: []byte("hello")},
		{Path: "/d/g", Mode: 0o600, Tick: 7, Data: []byte("gg")},
	}
}

func newKern(t *testing.T, faults ...api.Fault) *kern.Kern {
	t.Helper()
	x, e := tree.Load(nodes())
	is(t, "Load", e, api.OK)
	return kern.New(x, faults, tick)
}

// rig is a process in a kernel, whose descriptor 0 is a source of `abcdef`, 1 and 2 are sinks.
type rig struct {
	t    *testing.T
	k    *kern.Kern
	p    *proc.Proc
	out  int
	errs int
}

func newRig(t *testing.T, cwd string, faults ...api.Fault) *rig {
	t.Helper()
	k := newKern(t, faults...)
	p := proc.New(k, []string{"u"}, nil, cwd, limits)
	r := &rig{t: t, k: k, p: p}
	p.Table().Put(0, k.Source([]byte("abcdef")))
	r.out, r.errs = k.Sink(), k.Sink()
	p.Table().Put(1, r.out)
	p.Table().Put(2, r.errs)
	return r
}

// is fails, if an error is another one than that.
func is(t *testing.T, what string, got, want api.Errno) {
	t.Helper()
	if got != want {
		t.Errorf("%s: error %d, not %d", what, got, want)
	}
}

func same(t *testing.T, what string, got, want any) {
	t.Helper()
	if !reflect.DeepEqual(got, want) {
		t.Errorf("%s: %v, not %v", what, got, want)
	}
}

func (r *rig) said(out, errs string) {
	r.t.Helper()
	same(r.t, "told", string(r.k.Said(r.out)), out)
	same(r.t, "said", string(r.k.Said(r.errs)), errs)
}

// stands fails, if a machine stands otherwise than that: after so many steps; running on, or ended with a status.
func stands(t *testing.T, m *proc.Machine, steps int, done bool, status int) {
	t.Helper()
	if m.Steps() != steps || m.Done() != done || m.Status() != status {
		t.Errorf("it stands at %d steps, %v, %d, not at %d, %v, %d", m.Steps(), m.Done(), m.Status(), steps, done, status)
	}
}

// step does a step, and looks how the machine stands then.
func step(t *testing.T, m *proc.Machine, steps int, done bool, status int) {
	t.Helper()
	if got := m.Step(); got != done {
		t.Errorf("step %d: %v, not %v", steps, got, done)
	}
	stands(t, m, steps, done, status)
}

// finish steps a machine to its end.
func finish(t *testing.T, m *proc.Machine, steps, status int) {
	t.Helper()
	for range steps {
		m.Step()
	}
	stands(t, m, steps, true, status)
}

// only are mains that make one call.
func only(do func(p *proc.Proc)) func(*proc.Proc) int {
	return func(p *proc.Proc) int {
		do(p)
		return 0
	}
}

// job is one that may be.
func job(in string, faults ...api.Fault) api.Job {
	return api.Job{Args: []string{"u"}, In: []byte(in), Nodes: nodes(), Lim: limits, Faults: faults, Now: tick}
}

// run runs a main by a job.
func run(t *testing.T, j api.Job, main func(*proc.Proc) int) api.Result {
	t.Helper()
	r, ok := proc.Run(j, func(p *proc.Proc) *proc.Machine { return proc.Go(p, main) })
	if !ok {
		t.Fatal("a job that may be was not run")
	}
	return r
}

// told fails, if what came of a run is other than that.
func told(t *testing.T, r api.Result, out string, status int) {
	t.Helper()
	if string(r.Out) != out || r.Status != status {
		t.Errorf("told %q with %d, not %q with %d", r.Out, r.Status, out, status)
	}
}

func writeText(p *proc.Proc, fd int, text string) {
	for text != "" {
		n, e := p.Write(fd, []byte(text))
		if e != api.OK {
			return
		}
		text = text[n:]
	}
}

// tell is one line with an answer's numbers, for a main to write.
func tell(p *proc.Proc, l ...int) {
	var s string
	for _, n := range l {
		s += strconv.Itoa(n) + " "
	}
	writeText(p, 1, s+"\n")
}

func fds(t *testing.T, a *kern.Table, want ...int) {
	t.Helper()
	if l := a.Fds(); !slices.Equal(l, want) {
		t.Errorf("Fds: %v, not %v", l, want)
	}
}
