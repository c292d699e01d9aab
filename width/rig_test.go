package width_test

import (
	"reflect"
	"strings"
	"testing"

	"toolchest/api"
	"toolchest/kern"
	"toolchest/proc"
	"toolchest/tree"
	"toolchest/width"
)

// nodes are a directory /d, and the files /d/g (`gg`, a line feed), /e (no bytes), /f (`one`, a line feed, `two`), /h (lines with tabs and blanks), and two with a line of nine bytes: /k, whose second line that is, and /l, whose first one.
func nodes() []api.Node {
	return []api.Node{
		{Path: "/d", Dir: true, Mode: 0o755},
		file("/d/g", "gg\n"),
		file("/e", ""),
		file("/f", "one\ntwo"),
		file("/h", "\ta b\n\n    c\t\n"),
		file("/k", "ab\n123456789\ncd\n"),
		file("/l", "123456789\ncd\n"),
	}
}

func file(path, data string) api.Node { return api.Node{Path: path, Mode: 0o600, Data: []byte(data)} }

func lim(buf, line int) api.Limits { return api.Limits{Buf: buf, Line: line, Run: line} }

// faults are written as signs: `.` none, a digit cuts short, `i` interrupts, `e`, `s` and `p` let it fail (ErrIO, ErrNoSpace, ErrPipe).
func faults(signs string) []api.Fault {
	l := make([]api.Fault, len(signs))
	for i, c := range signs {
		switch c {
		case '.':
		case 'i':
			l[i].Kind = api.FaultIntr
		case 'e':
			l[i].Kind = api.FaultIO
		case 's':
			l[i].Kind = api.FaultSpace
		case 'p':
			l[i].Kind = api.FaultPipe
		default:
			l[i] = api.Fault{Kind: api.FaultShort, N: int(c - '0')}
		}
	}
	return l
}

// jobOf is one of these arguments; a buffer has four bytes, a line eight.
func jobOf(in string, args ...string) api.Job {
	return api.Job{Args: args, In: []byte(in), Nodes: nodes(), Lim: lim(4, 8)}
}

// job is jobOf a line of arguments, which blanks part.
func job(in, args string) api.Job { return jobOf(in, strings.Fields(args)...) }

func faulty(in, args, signs string) api.Job {
	j := job(in, args)
	j.Faults = faults(signs)
	return j
}

func run(t *testing.T, j api.Job) api.Result {
	t.Helper()
	r, ok := width.Run(j)
	if !ok {
		t.Fatalf("%q was not run", j.Args)
	}
	return r
}

// comes fails, if something else comes of a job, if its tree changes, or if it holds more, or has more steps, than it may.
func comes(t *testing.T, j api.Job, out, errs string, status int) api.Result {
	t.Helper()
	r := run(t, j)
	if string(r.Out) != out || string(r.Err) != errs || r.Status != status {
		t.Errorf("%q, In %q, Lim %v, faults %v: told %q, said %q, %d, not %q, %q, %d", j.Args, j.In, j.Lim, j.Faults, r.Out, r.Err, r.Status, out, errs, status)
	}
	if r.Peak > j.Lim.Line+j.Lim.Buf {
		t.Errorf("%q, In %q, Lim %v, faults %v: %d bytes were held", j.Args, j.In, j.Lim, j.Faults, r.Peak)
	}
	if most := mostSteps(j, r); r.Steps > most {
		t.Errorf("%q, In %q, Lim %v, faults %v: %d steps, more than %d", j.Args, j.In, j.Lim, j.Faults, r.Steps, most)
	}
	if want := load(t, j).Dump(); !reflect.DeepEqual(r.Nodes, want) {
		t.Errorf("%q: the tree has changed: %v", j.Args, r.Nodes)
	}
	return r
}

// comesAnyhow is comes, with buffers of one byte and more, and lines that are long enough; nothing is said.
func comesAnyhow(t *testing.T, in, out string, args ...string) {
	t.Helper()
	for _, buf := range []int{1, 2, 3, 4, 7, 300} {
		j := jobOf(in, args...)
		j.Lim = lim(buf, 200)
		comes(t, j, out, "", 0)
		for _, signs := range []string{"i1i2i3i4", "111111111111111111111111111111"} {
			j.Faults = faults(signs)
			comes(t, j, out, "", 0)
		}
	}
}

// refuses fails, if a job does anything but say that its options or operands may not be.
func refuses(t *testing.T, args ...string) {
	t.Helper()
	if r := comes(t, jobOf("q", args...), "", args[0]+": usage\n", 1); r.Steps != 1 || r.Peak != 0 {
		t.Errorf("%q: %d steps, %d bytes were held", args, r.Steps, r.Peak)
	}
}

// mostSteps is what P5.5 says of it.
func mostSteps(j api.Job, r api.Result) int {
	read := len(j.In)
	for _, arg := range j.Args[1:] {
		if arg != "-" {
			read += len(inputOf(j, arg))
		}
	}
	return 8 + 4*(len(j.Args)-1) + 3*read + 3*(len(r.Out)+len(r.Err)) + r.Used
}

// inputOf are the bytes of an input; of one that there is not none.
func inputOf(j api.Job, operand string) string {
	if operand == "-" {
		return string(j.In)
	}
	for _, n := range j.Nodes {
		if n.Path == "/"+operand {
			return string(n.Data)
		}
	}
	return ""
}

func load(t *testing.T, j api.Job) *tree.Tree {
	t.Helper()
	x, e := tree.Load(j.Nodes)
	if e != api.OK {
		t.Fatalf("Load: error %d", e)
	}
	return x
}

// rig is a process in a kernel, whose descriptor 0 is a source, 1 and 2 are sinks, till a test puts something else there.
type rig struct {
	t            *testing.T
	k            *kern.Kern
	p            *proc.Proc
	in, out, err int
}

func newRig(t *testing.T, j api.Job) *rig {
	t.Helper()
	k := kern.New(load(t, j), j.Faults, j.Now)
	r := &rig{t: t, k: k, p: proc.New(k, j.Args, j.Env, j.Cwd, j.Lim), in: k.Source(j.In), out: k.Sink(), err: k.Sink()}
	r.put(r.in, r.out, r.err)
	return r
}

// put lets the first descriptors have these things; of 0 the descriptor has nothing.
func (r *rig) put(things ...int) {
	r.t.Helper()
	for fd, what := range things {
		r.p.Table().Close(fd)
		if what == 0 {
			continue
		}
		if e := r.p.Table().Put(fd, what); e != api.OK {
			r.t.Fatalf("Put: error %d", e)
		}
	}
}

// result steps the process to its end: what came of it. (With each step its main is gone through anew; that of Run is not.)
func (r *rig) result() api.Result {
	r.t.Helper()
	m := width.Start(r.p)
	if m == nil {
		r.t.Fatalf("%q was not started", r.p.Args())
	}
	for !m.Step() {
	}
	return api.Result{
		Out: r.k.Said(r.out), Err: r.k.Said(r.err), Status: m.Status(), Nodes: r.k.Tree().Dump(),
		Steps: m.Steps(), Peak: m.Peak(), Used: r.k.Used(),
	}
}

// ends fails, if something else comes of the process.
func (r *rig) ends(out, errs string, status int) api.Result {
	r.t.Helper()
	got := r.result()
	if string(got.Out) != out || string(got.Err) != errs || got.Status != status {
		r.t.Errorf("%q: told %q, said %q, %d, not %q, %q, %d", r.p.Args(), got.Out, got.Err, got.Status, out, errs, status)
	}
	return got
}
