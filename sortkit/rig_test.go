package sortkit_test

import (
	"bytes"
	"reflect"
	"slices"
	"strings"
	"testing"

	"toolchest/api"
	"toolchest/kern"
	"toolchest/proc"
	"toolchest/sortkit"
	"toolchest/tree"
)

// nodes are a directory /d, and the files /d/g (`gg`, a line feed), /e (no bytes), /f (fruits, without a line feed at the end), /h (numbers), and two with a line of nine bytes: /k, whose second line that is, and /l, whose first one.
func nodes() []api.Node {
	return []api.Node{
		{Path: "/d", Dir: true, Mode: 0o755},
		file("/d/g", "gg\n"),
		file("/e", ""),
		file("/f", "pear\nfig\napple\nfig"),
		file("/h", "10\n9\n-1\n\n"),
		file("/k", "b\n123456789\na\n"),
		file("/l", "123456789\na\n"),
	}
}

func file(path, data string) api.Node { return api.Node{Path: path, Mode: 0o600, Data: []byte(data)} }

func lim(buf, line, run int) api.Limits { return api.Limits{Buf: buf, Line: line, Run: run} }

// faults are written as signs: `.` none, a digit cuts short, `i` interrupts, `e`, `s` and `p` let it fail (ErrIO, ErrNoSpace, ErrPipe).
func faults(signs string) []api.Fault {
	l := make([]api.Fault, len(signs))
	for i, c := range signs {
		switch c {
		case '.':
		case 'i':
			l[i].Kind = api.FaultIntr
		case 'e':
			l[i].Kind = api.FaultIO
		case 's':
			l[i].Kind = api.FaultSpace
		case 'p':
			l[i].Kind = api.FaultPipe
		default:
			l[i] = api.Fault{Kind: api.FaultShort, N: int(c - '0')}
		}
	}
	return l
}

// jobOf is one of these arguments; a buffer has four bytes, a line eight, and a run all that a test has.
func jobOf(in string, args ...string) api.Job {
	return api.Job{Args: args, In: []byte(in), Nodes: nodes(), Lim: lim(4, 8, 1000), Now: 7}
}

// job is jobOf a line of arguments, which blanks part.
func job(in, args string) api.Job { return jobOf(in, strings.Fields(args)...) }

func faulty(in, args, signs string) api.Job {
	j := job(in, args)
	j.Faults = faults(signs)
	return j
}

// tight is job, with a run that is no longer than a line: whatever it sorts is spilt.
func tight(in, args string) api.Job {
	j := job(in, args)
	j.Lim = lim(1, 8, 8)
	return j
}

func run(t *testing.T, j api.Job) api.Result {
	t.Helper()
	r, ok := sortkit.Run(j)
	if !ok {
		t.Fatalf("%q was not run", j.Args)
	}
	return r
}

// within fails, if a job has held more than P13.4 lets it, or has had more steps than P13.5 does.
func within(t *testing.T, j api.Job, r api.Result) {
	t.Helper()
	if most := mostHeld(j); r.Peak > most {
		t.Errorf("%q, In %q, Lim %v, faults %v: %d bytes were held, more than %d", j.Args, j.In, j.Lim, j.Faults, r.Peak, most)
	}
	if most := 60 + 6*(len(j.Args)-1) + 120*(bytesOf(j)+len(r.Out)) + r.Used; r.Steps > most {
		t.Errorf("%q, In %q, Lim %v, faults %v: %d steps, more than %d", j.Args, j.In, j.Lim, j.Faults, r.Steps, most)
	}
}

// mostHeld is what P13.4 says of it.
func mostHeld(j api.Job) int { return max(j.Lim.Run, 2*(j.Lim.Line+j.Lim.Buf)) }

// bytesOf is how many bytes the inputs have.
func bytesOf(j api.Job) int {
	n := 0
	for _, operand := range askedOf(j.Args).inputs() {
		n += len(inputOf(j, operand))
	}
	return n
}

// inputOf are the bytes of an input; of one that there is not none.
func inputOf(j api.Job, operand string) string {
	if operand == "-" {
		return string(j.In)
	}
	for _, n := range j.Nodes {
		if n.Path == "/"+operand {
			return string(n.Data)
		}
	}
	return ""
}

// comes fails, if something else comes of a job, or if its tree changes.
func comes(t *testing.T, j api.Job, out, errs string, status int) api.Result {
	t.Helper()
	return comesTo(t, j, api.Result{Out: []byte(out), Err: []byte(errs), Status: status, Nodes: j.Nodes})
}

// comesTo fails, if what a job tells and says, its status or its tree are others, or if it holds too much, or has too many steps.
func comesTo(t *testing.T, j api.Job, want api.Result) api.Result {
	t.Helper()
	r := run(t, j)
	if string(r.Out) != string(want.Out) || string(r.Err) != string(want.Err) || r.Status != want.Status {
		t.Errorf("%q, In %q, Lim %v, faults %v: told %q, said %q, %d, not %q, %q, %d", j.Args, j.In, j.Lim, j.Faults, r.Out, r.Err, r.Status, want.Out, want.Err, want.Status)
	}
	if tree := dumped(t, want.Nodes); !areSame(r.Nodes, tree) {
		t.Errorf("%q, In %q, Lim %v, faults %v: the tree is %v, not %v", j.Args, j.In, j.Lim, j.Faults, r.Nodes, tree)
	}
	within(t, j, r)
	return r
}

// comesAnyhow is comes, with runs, buffers and faults of many kinds; nothing is said.
func comesAnyhow(t *testing.T, in, out string, args ...string) {
	t.Helper()
	for _, l := range []api.Limits{lim(1, 8, 8), lim(3, 8, 8), lim(1, 60, 60), lim(2, 8, 30), lim(7, 60, 1000), lim(4096, 4096, 4096)} {
		j := jobOf(in, args...)
		j.Lim = l
		for _, signs := range []string{"", "i1i2i3i4", strings.Repeat("1", 200)} {
			j.Faults = faults(signs)
			comes(t, j, out, "", 0)
		}
	}
}

// refuses fails, if a job does anything but say that its options or operands may not be.
func refuses(t *testing.T, args ...string) {
	t.Helper()
	if r := comes(t, jobOf("b\na\n", args...), "", "sort: usage\n", 2); r.Steps != 1 || r.Peak != 0 {
		t.Errorf("%q: %d steps, %d bytes were held", args, r.Steps, r.Peak)
	}
}

// with are nodes of which one is written at the tick 7: it has these bytes.
func with(l []api.Node, path, data string) []api.Node {
	l = slices.Clone(l)
	for i := range l {
		if l[i].Path == path {
			l[i].Data, l[i].Tick = []byte(data), 7
			return l
		}
	}
	return append(l, api.Node{Path: path, Mode: 0o644, Tick: 7, Data: []byte(data)})
}

func load(t *testing.T, l []api.Node) *tree.Tree {
	t.Helper()
	x, e := tree.Load(l)
	if e != api.OK {
		t.Fatalf("Load: error %d", e)
	}
	return x
}

// areSame holds nodes against each other.
func areSame(a, b []api.Node) bool {
	return slices.EqualFunc(a, b, func(x, y api.Node) bool {
		data := bytes.Equal(x.Data, y.Data) // nil and empty are the same
		x.Data, y.Data = nil, nil
		return data && reflect.DeepEqual(x, y)
	})
}

// dumped are nodes as a tree tells them.
func dumped(t *testing.T, l []api.Node) []api.Node {
	t.Helper()
	return load(t, l).Dump()
}

// rig is a process in a kernel, whose descriptor 0 is a source, 1 and 2 are sinks, till a test puts something else there.
type rig struct {
	t            *testing.T
	k            *kern.Kern
	p            *proc.Proc
	in, out, err int
}

func newRig(t *testing.T, j api.Job) *rig {
	t.Helper()
	k := kern.New(load(t, j.Nodes), j.Faults, j.Now)
	r := &rig{t: t, k: k, p: proc.New(k, j.Args, j.Env, j.Cwd, j.Lim), in: k.Source(j.In), out: k.Sink(), err: k.Sink()}
	r.put(r.in, r.out, r.err)
	return r
}

// put lets the first descriptors have these things; of 0 the descriptor has nothing.
func (r *rig) put(things ...int) {
	r.t.Helper()
	for fd, what := range things {
		r.p.Table().Close(fd)
		if what == 0 {
			continue
		}
		if e := r.p.Table().Put(fd, what); e != api.OK {
			r.t.Fatalf("Put: error %d", e)
		}
	}
}

// start is the process's machine.
func (r *rig) start() *proc.Machine {
	r.t.Helper()
	m := sortkit.Start(r.p)
	if m == nil {
		r.t.Fatalf("%q was not started", r.p.Args())
	}
	return m
}

// result steps the process to its end: what came of it. (With each step its main is gone through anew; that of Run is not.) Ahead of each step it may be looked at.
func (r *rig) result(look func(m *proc.Machine)) api.Result {
	r.t.Helper()
	m := r.start()
	for done := false; !done; done = m.Step() {
		if look != nil {
			look(m)
		}
	}
	return api.Result{
		Out: r.k.Said(r.out), Err: r.k.Said(r.err), Status: m.Status(), Nodes: r.k.Tree().Dump(),
		Steps: m.Steps(), Peak: m.Peak(), Used: r.k.Used(),
	}
}

// ends fails, if something else comes of the process, or if a spill file is left.
func (r *rig) ends(out, errs string, status int) api.Result {
	r.t.Helper()
	got := r.result(nil)
	if string(got.Out) != out || string(got.Err) != errs || got.Status != status {
		r.t.Errorf("%q: told %q, said %q, %d, not %q, %q, %d", r.p.Args(), got.Out, got.Err, got.Status, out, errs, status)
	}
	if left := r.spills(); len(left) > 0 {
		r.t.Errorf("%q: %q are left", r.p.Args(), left)
	}
	return got
}

// spills are the names in the root that begin as those of spill files do.
func (r *rig) spills() []string {
	names, _ := r.k.Tree().List("", "/")
	return slices.DeleteFunc(names, func(name string) bool { return !strings.HasPrefix(name, ".sort") })
}

// dataOf are the bytes of a file.
func (r *rig) dataOf(path string) string {
	ino, _ := r.k.Tree().Find("", path)
	return string(r.k.Tree().Read(ino, 0, 1<<20))
}
