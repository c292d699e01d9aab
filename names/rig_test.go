package names_test

import (
	"reflect"
	"strconv"
	"strings"
	"testing"

	"toolchest/api"
	"toolchest/kern"
	"toolchest/names"
	"toolchest/proc"
	"toolchest/tree"
)

// nodes are files and directories whose names stand among operands of tests: none of them is touched.
func nodes() []api.Node {
	return []api.Node{
		{Path: "/a", Dir: true, Mode: 0o755},
		{Path: "/a/b", Dir: true, Mode: 0o700, Tick: 2},
		file("/a/b/c", "one"),
		file("/f", "two"),
		file("/-n", "three"),
	}
}

func file(path, data string) api.Node { return api.Node{Path: path, Mode: 0o600, Data: []byte(data)} }

// faults are written as signs: `.` none, a digit cuts short, `i` interrupts, `e`, `s` and `p` let it fail (ErrIO, ErrNoSpace, ErrPipe).
func faults(signs string) []api.Fault {
	kinds := map[rune]int{'.': api.FaultNone, 'i': api.FaultIntr, 'e': api.FaultIO, 's': api.FaultSpace, 'p': api.FaultPipe}
	var l []api.Fault
	for _, c := range signs {
		f := api.Fault{Kind: api.FaultShort, N: int(c - '0')}
		if kind, ok := kinds[c]; ok {
			f = api.Fault{Kind: kind}
		}
		l = append(l, f)
	}
	return l
}

// signsOf are the signs of faults, for what a test says.
func signsOf(l []api.Fault) string {
	var signs string
	for _, f := range l {
		signs += []string{".", strconv.Itoa(f.N), "i", "s", "e", "p"}[f.Kind]
	}
	return signs
}

// job is one of these arguments; limits are as low as can be, since nothing is read.
func job(args ...string) api.Job {
	return api.Job{Args: args, In: []byte("in\n"), Nodes: nodes(), Lim: api.Limits{Buf: 1, Line: 1, Run: 1}, Now: 7}
}

func faulty(signs string, args ...string) api.Job {
	j := job(args...)
	j.Faults = faults(signs)
	return j
}

func run(t *testing.T, j api.Job) api.Result {
	t.Helper()
	r, ok := names.Run(j)
	if !ok {
		t.Fatalf("%q was not run", j.Args)
	}
	return r
}

// comes fails, if something else comes of a job, if its tree changes, or if it holds anything.
func comes(t *testing.T, j api.Job, out, errs string, status int) api.Result {
	t.Helper()
	r := run(t, j)
	if string(r.Out) != out || string(r.Err) != errs || r.Status != status {
		t.Errorf("%q, faults %q: told %q, said %q, %d, not %q, %q, %d", j.Args, signsOf(j.Faults), r.Out, r.Err, r.Status, out, errs, status)
	}
	if r.Peak != 0 {
		t.Errorf("%q, faults %q: %d bytes were held", j.Args, signsOf(j.Faults), r.Peak)
	}
	if before := load(t, j.Nodes).Dump(); !reflect.DeepEqual(r.Nodes, before) {
		t.Errorf("%q: the tree is %v, not %v", j.Args, r.Nodes, before)
	}
	return r
}

// tells fails, if a job does anything but tell a text, in one piece.
func tells(t *testing.T, out string, args ...string) {
	t.Helper()
	says(t, out, "", 0, args...)
}

// says fails, if a job does anything but say these lines, and then tell a text in one piece; mild faults change nothing.
func says(t *testing.T, out, errs string, status int, args ...string) {
	t.Helper()
	r := comes(t, job(args...), out, errs, status)
	if want := strings.Count(errs, args[0]+": ") + min(1, len(out)); r.Steps != want {
		t.Errorf("%q: %d steps, not %d", args, r.Steps, want)
	}
	for _, signs := range []string{"i", "1", "ii3i1", "1i1i1i1i1i1i1i1i1i"} {
		comes(t, faulty(signs, args...), out, errs, status)
	}
}

// refuses fails, if a job does anything but say that its options or operands may not be.
func refuses(t *testing.T, args ...string) {
	t.Helper()
	says(t, "", args[0]+": usage\n", 1, args...)
}

func load(t *testing.T, l []api.Node) *tree.Tree {
	t.Helper()
	x, e := tree.Load(l)
	if e != api.OK {
		t.Fatalf("Load: error %d", e)
	}
	return x
}

// rig is a process in a kernel, whose descriptor 0 is a source, 1 and 2 are sinks, till a test puts something else there.
type rig struct {
	t            *testing.T
	k            *kern.Kern
	p            *proc.Proc
	in, out, err int
}

func newRig(t *testing.T, j api.Job) *rig {
	t.Helper()
	k := kern.New(load(t, j.Nodes), j.Faults, j.Now)
	r := &rig{t: t, k: k, p: proc.New(k, j.Args, j.Env, j.Cwd, j.Lim), in: k.Source(j.In), out: k.Sink(), err: k.Sink()}
	r.put(r.in, r.out, r.err)
	return r
}

// put lets the first descriptors have these things; of 0 the descriptor has nothing.
func (r *rig) put(things ...int) {
	r.t.Helper()
	for fd, what := range things {
		r.p.Table().Close(fd)
		if what == 0 {
			continue
		}
		if e := r.p.Table().Put(fd, what); e != api.OK {
			r.t.Fatalf("Put: error %d", e)
		}
	}
}

// start is the process's machine.
func (r *rig) start() *proc.Machine {
	r.t.Helper()
	m := names.Start(r.p)
	if m == nil {
		r.t.Fatalf("%q was not started", r.p.Args())
	}
	return m
}

// result steps the process to its end: what came of it. (With each step its main is gone through anew; that of Run is not.)
func (r *rig) result() api.Result {
	r.t.Helper()
	m := r.start()
	for !m.Step() {
	}
	return api.Result{
		Out: r.k.Said(r.out), Err: r.k.Said(r.err), Status: m.Status(), Nodes: r.k.Tree().Dump(),
		Steps: m.Steps(), Peak: m.Peak(), Used: r.k.Used(),
	}
}

// ends fails, if something else comes of the process.
func (r *rig) ends(out, errs string, status int) {
	r.t.Helper()
	got := r.result()
	if string(got.Out) != out || string(got.Err) != errs || got.Status != status {
		r.t.Errorf("%q: told %q, said %q, %d, not %q, %q, %d", r.p.Args(), got.Out, got.Err, got.Status, out, errs, status)
	}
}
