package flow_test

import (
	"reflect"
	"strings"
	"testing"

	"toolchest/api"
	"toolchest/flow"
	"toolchest/kern"
	"toolchest/proc"
	"toolchest/tree"
)

const now = 9

// nodes are the directory /d, and the files /d/g (`gg`, a line feed), /e (no bytes), /f (`one`, a line feed, `two`), each with one tick.
func nodes() []api.Node {
	return []api.Node{
		{Path: "/d", Dir: true, Mode: 0o755, Tick: 7},
		{Path: "/d/g", Mode: 0o600, Tick: 7, Data: []byte("gg\n")},
		{Path: "/e", Mode: 0o600, Tick: 7},
		{Path: "/f", Mode: 0o600, Tick: 7, Data: []byte("one\ntwo")},
	}
}

func file(path, data string) api.Node { return api.Node{Path: path, Mode: 0o600, Data: []byte(data)} }

func lim(buf int) api.Limits { return api.Limits{Buf: buf, Line: 1, Run: 1} }

// faults are written as signs: `.` none, a digit cuts short, `i` interrupts, `e`, `s` and `p` let it fail (ErrIO, ErrNoSpace, ErrPipe).
func faults(signs string) []api.Fault {
	kinds := map[rune]int{'.': api.FaultNone, 'i': api.FaultIntr, 'e': api.FaultIO, 's': api.FaultSpace, 'p': api.FaultPipe}
	var l []api.Fault
	for _, c := range signs {
		if kind, ok := kinds[c]; ok {
			l = append(l, api.Fault{Kind: kind})
			continue
		}
		l = append(l, api.Fault{Kind: api.FaultShort, N: int(c - '0')})
	}
	return l
}

// job is one of a line of arguments, which blanks part; a buffer has four bytes.
func job(in, args string) api.Job {
	return api.Job{Args: strings.Fields(args), In: []byte(in), Nodes: nodes(), Lim: lim(4), Now: now}
}

func faulty(in, args, signs string) api.Job {
	j := job(in, args)
	j.Faults = faults(signs)
	return j
}

func run(t *testing.T, j api.Job) api.Result {
	t.Helper()
	r, ok := flow.Run(j)
	if !ok {
		t.Fatalf("%q was not run", j.Args)
	}
	return r
}

// comes fails, if something else comes of a job, or if it holds more than a buffer.
func comes(t *testing.T, j api.Job, out, errs string, status int) api.Result {
	t.Helper()
	r := run(t, j)
	if string(r.Out) != out || string(r.Err) != errs || r.Status != status {
		t.Errorf("%q, In %q, Buf %d, faults %v: told %q, said %q, %d, not %q, %q, %d", j.Args, j.In, j.Lim.Buf, j.Faults, r.Out, r.Err, r.Status, out, errs, status)
	}
	keepsBounds(t, j, r)
	return r
}

// keepsBounds fails, if a job holds more than P7.4 allows, or has more steps than P5.5.
func keepsBounds(t *testing.T, j api.Job, r api.Result) {
	t.Helper()
	if r.Peak > j.Lim.Buf {
		t.Errorf("%q, In %q, Buf %d, faults %v: %d bytes were held", j.Args, j.In, j.Lim.Buf, j.Faults, r.Peak)
	}
	arguments, written := len(j.Args)-1, len(r.Out)+len(r.Err)
	if j.Args[0] == "tee" {
		written += arguments * len(j.In)
	}
	read := len(j.In)
	for _, arg := range j.Args[1:] {
		read += len(dataOf(j.Nodes, "/"+arg))
	}
	if most := 8 + 4*arguments + 3*read + 3*written + r.Used; r.Steps > most {
		t.Errorf("%q, In %q, Buf %d, faults %v: %d steps, more than %d", j.Args, j.In, j.Lim.Buf, j.Faults, r.Steps, most)
	}
}

// nodeOf is a node of a result; false, if there is none.
func nodeOf(l []api.Node, path string) (api.Node, bool) {
	for _, n := range l {
		if n.Path == path {
			return n, true
		}
	}
	return api.Node{}, false
}

func dataOf(l []api.Node, path string) string {
	n, _ := nodeOf(l, path)
	return string(n.Data)
}

// says fails, if a file says something else in the end, or is not there.
func says(t *testing.T, r api.Result, path, want string) {
	t.Helper()
	n, ok := nodeOf(r.Nodes, path)
	if !ok || string(n.Data) != want {
		t.Errorf("%s says %q (is it there: %v), not %q", path, n.Data, ok, want)
	}
}

// treeStays fails, if a job's tree is another one in the end.
func treeStays(t *testing.T, j api.Job, r api.Result) {
	t.Helper()
	x, e := tree.Load(j.Nodes)
	if e != api.OK {
		t.Fatalf("Load: error %d", e)
	}
	if !reflect.DeepEqual(r.Nodes, x.Dump()) {
		t.Errorf("%q: the tree has changed: %v", j.Args, r.Nodes)
	}
}

// refuses fails, if a job does anything but say that its options may not be.
func refuses(t *testing.T, args string) {
	t.Helper()
	j := job("q", args)
	r := comes(t, j, "", j.Args[0]+": usage\n", 1)
	treeStays(t, j, r)
	if r.Steps != 1 {
		t.Errorf("%s: %d steps", args, r.Steps)
	}
}

// rig is a process in a kernel, whose descriptor 0 is a source, 1 and 2 are sinks, till a test puts something else there.
type rig struct {
	t    *testing.T
	k    *kern.Kern
	p    *proc.Proc
	out  int
	errs int
}

func newRig(t *testing.T, j api.Job) *rig {
	t.Helper()
	x, e := tree.Load(j.Nodes)
	if e != api.OK {
		t.Fatalf("Load: error %d", e)
	}
	k := kern.New(x, j.Faults, j.Now)
	r := &rig{t: t, k: k, p: proc.New(k, j.Args, j.Env, j.Cwd, j.Lim), out: k.Sink(), errs: k.Sink()}
	r.put(0, k.Source(j.In))
	r.put(1, r.out)
	r.put(2, r.errs)
	return r
}

func (r *rig) put(fd, what int) {
	r.t.Helper()
	if e := r.p.Table().Put(fd, what); e != api.OK {
		r.t.Fatalf("Put: error %d", e)
	}
}

// result steps the process to its end: what came of it. (Its machine goes through main anew with each step; that of Run does not.)
func (r *rig) result() api.Result {
	r.t.Helper()
	m := flow.Start(r.p)
	if m == nil {
		r.t.Fatalf("%q was not started", r.p.Args())
	}
	for !m.Step() {
	}
	return api.Result{
		Out: r.k.Said(r.out), Err: r.k.Said(r.errs), Status: m.Status(), Nodes: r.k.Tree().Dump(),
		Steps: m.Steps(), Peak: m.Peak(), Used: r.k.Used(),
	}
}

// ends fails, if something else comes of the process.
func (r *rig) ends(out, errs string, status int) api.Result {
	r.t.Helper()
	got := r.result()
	if string(got.Out) != out || string(got.Err) != errs || got.Status != status {
		r.t.Errorf("%q: told %q, said %q, %d, not %q, %q, %d", r.p.Args(), got.Out, got.Err, got.Status, out, errs, status)
	}
	return got
}
