package logic_test

import (
	"reflect"
	"strconv"
	"strings"
	"testing"

	"toolchest/api"
	"toolchest/kern"
	"toolchest/logic"
	"toolchest/proc"
	"toolchest/tree"
)

// nodes are files and directories of several modes; some have names that look like something else.
func nodes() []api.Node {
	return []api.Node{
		dir("/d", 0o755),
		file("/d/x", "one", 0o640),
		dir("/d/y", 0o077),
		file("/e", "", 0o777),
		file("/f", "two", 0o000),
		file("/g", "\n", 0o400),
		file("/h", "\x00", 0o200),
		file("/i", "three", 0o100),
		file("/-n", "", 0o300),
		file("/!", "", 0o500),
		dir("/(", 0o600),
		dir("/=", 0o000),
	}
}

func file(path, data string, mode int) api.Node {
	return api.Node{Path: path, Mode: mode, Data: []byte(data)}
}

func dir(path string, mode int) api.Node { return api.Node{Path: path, Dir: true, Mode: mode} }

// faults are written as signs: `.` none, a digit cuts short, `i` interrupts, `e`, `s` and `p` let it fail (ErrIO, ErrNoSpace, ErrPipe).
func faults(signs string) []api.Fault {
	kinds := map[rune]int{'.': api.FaultNone, 'i': api.FaultIntr, 'e': api.FaultIO, 's': api.FaultSpace, 'p': api.FaultPipe}
	var l []api.Fault
	for _, c := range signs {
		f := api.Fault{Kind: api.FaultShort, N: int(c - '0')}
		if kind, ok := kinds[c]; ok {
			f = api.Fault{Kind: kind}
		}
		l = append(l, f)
	}
	return l
}

// signsOf are the signs of faults, for what a test says.
func signsOf(l []api.Fault) string {
	var signs string
	for _, f := range l {
		signs += []string{".", strconv.Itoa(f.N), "i", "s", "e", "p"}[f.Kind]
	}
	return signs
}

// jobOf is one of these arguments; limits are as low as can be, since nothing is read.
func jobOf(args ...string) api.Job {
	return api.Job{Args: args, In: []byte("in\n"), Nodes: nodes(), Lim: api.Limits{Buf: 1, Line: 1, Run: 1}, Now: 7}
}

// split parts a line into arguments, between which stands one blank: where there are two together, one without bytes stands between them.
func split(line string) []string { return strings.Split(line, " ") }

// job is jobOf a line of arguments.
func job(line string) api.Job { return jobOf(split(line)...) }

func faulty(signs, line string) api.Job {
	j := job(line)
	j.Faults = faults(signs)
	return j
}

func run(t *testing.T, j api.Job) api.Result {
	t.Helper()
	r, ok := logic.Run(j)
	if !ok {
		t.Fatalf("%q was not run", j.Args)
	}
	return r
}

// comes fails, if something else comes of a job, if its tree changes, or if it holds anything.
func comes(t *testing.T, j api.Job, out, errs string, status int) api.Result {
	t.Helper()
	r := run(t, j)
	if string(r.Out) != out || string(r.Err) != errs || r.Status != status {
		t.Errorf("%q, faults %q: told %q, said %q, %d, not %q, %q, %d", j.Args, signsOf(j.Faults), r.Out, r.Err, r.Status, out, errs, status)
	}
	if r.Peak != 0 {
		t.Errorf("%q, faults %q: %d bytes were held", j.Args, signsOf(j.Faults), r.Peak)
	}
	if before := load(t, j.Nodes).Dump(); !reflect.DeepEqual(r.Nodes, before) {
		t.Errorf("%q: the tree is %v, not %v", j.Args, r.Nodes, before)
	}
	return r
}

// anyhow is comes, in so many steps, and with mild faults.
func anyhow(t *testing.T, args []string, steps int, out, errs string, status int) {
	t.Helper()
	j := jobOf(args...)
	if r := comes(t, j, out, errs, status); r.Steps != steps {
		t.Errorf("%q: %d steps, not %d", args, r.Steps, steps)
	}
	for _, signs := range []string{"i", "1", "ii3i1", "1i1i1i1i1i1i1i1i1i"} {
		j.Faults = faults(signs)
		comes(t, j, out, errs, status)
	}
}

// judge fails, if test, or `[`, comes of a line of arguments to anything but this: 0 or 1, or what is said, with the status 2.
func judge(t *testing.T, args string, status int, errs ...string) {
	t.Helper()
	var l []string
	if args != "none" {
		l = split(args)
	}
	judgeList(t, l, status, errs...)
}

func judgeList(t *testing.T, l []string, status int, errs ...string) {
	t.Helper()
	said := strings.Join(errs, "")
	steps := looks(l) + len(errs)
	for name, args := range map[string][]string{"test": l, "[": append(append([]string(nil), l...), "]")} {
		line := ""
		if said != "" {
			line = name + ": " + said + "\n"
		}
		anyhow(t, append([]string{name}, args...), steps, "", line, status)
	}
}

// tells fails, if expr does anything but tell the value of a line of arguments.
func tells(t *testing.T, args, value string, status int) {
	t.Helper()
	anyhow(t, append([]string{"expr"}, split(args)...), 1, value+"\n", "", status)
}

// says fails, if expr does anything but say what is wrong in a line of arguments.
func says(t *testing.T, args, errs string) {
	t.Helper()
	anyhow(t, append([]string{"expr"}, split(args)...), 1, "", "expr: "+errs+"\n", 2)
}

func load(t *testing.T, l []api.Node) *tree.Tree {
	t.Helper()
	x, e := tree.Load(l)
	if e != api.OK {
		t.Fatalf("Load: error %d", e)
	}
	return x
}

// rig is a process in a kernel, whose descriptor 0 is a source, 1 and 2 are sinks, till a test puts something else there.
type rig struct {
	t            *testing.T
	k            *kern.Kern
	p            *proc.Proc
	in, out, err int
}

func newRig(t *testing.T, j api.Job) *rig {
	t.Helper()
	k := kern.New(load(t, j.Nodes), j.Faults, j.Now)
	r := &rig{t: t, k: k, p: proc.New(k, j.Args, j.Env, j.Cwd, j.Lim), in: k.Source(j.In), out: k.Sink(), err: k.Sink()}
	r.put(r.in, r.out, r.err)
	return r
}

// put lets the first descriptors have these things; of 0 the descriptor has nothing.
func (r *rig) put(things ...int) {
	r.t.Helper()
	for fd, what := range things {
		r.p.Table().Close(fd)
		if what == 0 {
			continue
		}
		if e := r.p.Table().Put(fd, what); e != api.OK {
			r.t.Fatalf("Put: error %d", e)
		}
	}
}

// start is the process's machine.
func (r *rig) start() *proc.Machine {
	r.t.Helper()
	m := logic.Start(r.p)
	if m == nil {
		r.t.Fatalf("%q was not started", r.p.Args())
	}
	return m
}

// result steps the process to its end: what came of it. (With each step its main is gone through anew; that of Run is not.)
func (r *rig) result() api.Result {
	r.t.Helper()
	m := r.start()
	for !m.Step() {
	}
	return api.Result{
		Out: r.k.Said(r.out), Err: r.k.Said(r.err), Status: m.Status(), Nodes: r.k.Tree().Dump(),
		Steps: m.Steps(), Peak: m.Peak(), Used: r.k.Used(),
	}
}

// ends fails, if something else comes of the process.
func (r *rig) ends(out, errs string, status int) {
	r.t.Helper()
	got := r.result()
	if string(got.Out) != out || string(got.Err) != errs || got.Status != status {
		r.t.Errorf("%q: told %q, said %q, %d, not %q, %q, %d", r.p.Args(), got.Out, got.Err, got.Status, out, errs, status)
	}
}
