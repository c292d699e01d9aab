package trans_test

import (
	"reflect"
	"testing"

	"toolchest/api"
	"toolchest/kern"
	"toolchest/proc"
	"toolchest/trans"
	"toolchest/tree"
)

// nodes are files whose names stand among operands of tests: none of them is read.
func nodes() []api.Node { return []api.Node{file("/a", "one"), file("/b", "two"), file("/-", "three")} }

func file(path, data string) api.Node { return api.Node{Path: path, Mode: 0o600, Data: []byte(data)} }

// lim has lines of one byte: tr reads none.
func lim(buf int) api.Limits { return api.Limits{Buf: buf, Line: 1, Run: 1} }

// faults are written as signs: `.` none, a digit cuts short, `i` interrupts, `e`, `s` and `p` let it fail (ErrIO, ErrNoSpace, ErrPipe).
func faults(signs string) []api.Fault {
	l := make([]api.Fault, len(signs))
	for i, c := range signs {
		switch c {
		case '.':
		case 'i':
			l[i].Kind = api.FaultIntr
		case 'e':
			l[i].Kind = api.FaultIO
		case 's':
			l[i].Kind = api.FaultSpace
		case 'p':
			l[i].Kind = api.FaultPipe
		default:
			l[i] = api.Fault{Kind: api.FaultShort, N: int(c - '0')}
		}
	}
	return l
}

// job is one of tr with these arguments; a buffer has four bytes.
func job(in string, args ...string) api.Job {
	return api.Job{Args: append([]string{"tr"}, args...), In: []byte(in), Nodes: nodes(), Lim: lim(4)}
}

func faulty(in, signs string, args ...string) api.Job {
	j := job(in, args...)
	j.Faults = faults(signs)
	return j
}

func run(t *testing.T, j api.Job) api.Result {
	t.Helper()
	r, ok := trans.Run(j)
	if !ok {
		t.Fatalf("%q was not run", j.Args)
	}
	return r
}

// comes fails, if something else comes of a job, if its tree changes, or if it holds more, or has more steps, than it may.
func comes(t *testing.T, j api.Job, out, errs string, status int) api.Result {
	t.Helper()
	r := run(t, j)
	if string(r.Out) != out || string(r.Err) != errs || r.Status != status {
		t.Errorf("%q, In %q, Buf %d, faults %v: told %q, said %q, %d, not %q, %q, %d", j.Args, j.In, j.Lim.Buf, j.Faults, r.Out, r.Err, r.Status, out, errs, status)
	}
	if r.Peak > j.Lim.Buf {
		t.Errorf("%q, In %q, Buf %d, faults %v: %d bytes were held", j.Args, j.In, j.Lim.Buf, j.Faults, r.Peak)
	}
	if most := mostSteps(j, r); r.Steps > most {
		t.Errorf("%q, In %q, Buf %d, faults %v: %d steps, more than %d", j.Args, j.In, j.Lim.Buf, j.Faults, r.Steps, most)
	}
	if want := load(t, j).Dump(); !reflect.DeepEqual(r.Nodes, want) {
		t.Errorf("%q: the tree has changed: %v", j.Args, r.Nodes)
	}
	return r
}

// comesAnyhow is comes, with buffers of one byte and more, and mild faults; nothing is said.
func comesAnyhow(t *testing.T, in, out string, args ...string) {
	t.Helper()
	for buf := 1; buf < 9; buf++ {
		j := job(in, args...)
		j.Lim = lim(buf)
		comes(t, j, out, "", 0)
		for _, signs := range []string{"i1i2i3i4", "111111111111111111111111111111", "iii", ".1..2i"} {
			j.Faults = faults(signs)
			comes(t, j, out, "", 0)
		}
	}
}

// refuses fails, if tr does anything but say that its options or operands may not be.
func refuses(t *testing.T, args ...string) {
	t.Helper()
	if r := comes(t, job("aab", args...), "", "tr: usage\n", 1); r.Steps != 1 || r.Peak != 0 {
		t.Errorf("%q: %d steps, %d bytes were held", args, r.Steps, r.Peak)
	}
}

// mostSteps is what P5.5 says of it.
func mostSteps(j api.Job, r api.Result) int {
	return 8 + 4*(len(j.Args)-1) + 3*len(j.In) + 3*(len(r.Out)+len(r.Err)) + r.Used
}

func load(t *testing.T, j api.Job) *tree.Tree {
	t.Helper()
	x, e := tree.Load(j.Nodes)
	if e != api.OK {
		t.Fatalf("Load: error %d", e)
	}
	return x
}

// rig is a process in a kernel, whose descriptor 0 is a source, 1 and 2 are sinks, till a test puts something else there.
type rig struct {
	t            *testing.T
	k            *kern.Kern
	p            *proc.Proc
	in, out, err int
}

func newRig(t *testing.T, j api.Job) *rig {
	t.Helper()
	k := kern.New(load(t, j), j.Faults, j.Now)
	r := &rig{t: t, k: k, p: proc.New(k, j.Args, j.Env, j.Cwd, j.Lim), in: k.Source(j.In), out: k.Sink(), err: k.Sink()}
	r.put(r.in, r.out, r.err)
	return r
}

// put lets the first descriptors have these things; of 0 the descriptor has nothing.
func (r *rig) put(things ...int) {
	r.t.Helper()
	for fd, what := range things {
		r.p.Table().Close(fd)
		if what == 0 {
			continue
		}
		if e := r.p.Table().Put(fd, what); e != api.OK {
			r.t.Fatalf("Put: error %d", e)
		}
	}
}

// result steps the process to its end: what came of it. (With each step its main is gone through anew; that of Run is not.)
func (r *rig) result() api.Result {
	r.t.Helper()
	m := trans.Start(r.p)
	if m == nil {
		r.t.Fatalf("%q was not started", r.p.Args())
	}
	for !m.Step() {
	}
	return api.Result{
		Out: r.k.Said(r.out), Err: r.k.Said(r.err), Status: m.Status(), Nodes: r.k.Tree().Dump(),
		Steps: m.Steps(), Peak: m.Peak(), Used: r.k.Used(),
	}
}

// ends fails, if something else comes of the process.
func (r *rig) ends(out, errs string, status int) {
	r.t.Helper()
	got := r.result()
	if string(got.Out) != out || string(got.Err) != errs || got.Status != status {
		r.t.Errorf("%q: told %q, said %q, %d, not %q, %q, %d", r.p.Args(), got.Out, got.Err, got.Status, out, errs, status)
	}
}
