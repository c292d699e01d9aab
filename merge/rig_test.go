package merge_test

import (
	"bytes"
	"reflect"
	"slices"
	"strconv"
	"strings"
	"testing"

	"toolchest/api"
	"toolchest/kern"
	"toolchest/merge"
	"toolchest/proc"
	"toolchest/tree"
)

// nodes are a directory /d, and the files /d/g (`gg`, a line feed), /e (no bytes), /f and /h (lines with keys, in order; of /f the last one lacks its line feed), and two with a line of nine bytes: /k, whose second line that is, and /l, whose first one.
func nodes() []api.Node {
	return []api.Node{
		{Path: "/d", Dir: true, Mode: 0o755},
		file("/d/g", "gg\n"),
		file("/e", ""),
		file("/f", "a 1\na 2\nb 3\nd 4"),
		file("/h", "a x\nc y\nd z\nd w\n"),
		file("/k", "a\n123456789\nz\n"),
		file("/l", "123456789\nz\n"),
	}
}

func file(path, data string) api.Node { return api.Node{Path: path, Mode: 0o600, Data: []byte(data)} }

func lim(buf, line int) api.Limits { return api.Limits{Buf: buf, Line: line, Run: line} }

// faults are written as signs: `.` none, a digit cuts short, `i` interrupts, `e`, `s` and `p` let it fail (ErrIO, ErrNoSpace, ErrPipe).
func faults(signs string) []api.Fault {
	l := make([]api.Fault, len(signs))
	for i, c := range signs {
		switch c {
		case '.':
		case 'i':
			l[i].Kind = api.FaultIntr
		case 'e':
			l[i].Kind = api.FaultIO
		case 's':
			l[i].Kind = api.FaultSpace
		case 'p':
			l[i].Kind = api.FaultPipe
		default:
			l[i] = api.Fault{Kind: api.FaultShort, N: int(c - '0')}
		}
	}
	return l
}

// signsOf are the signs of faults, for what a test says.
func signsOf(l []api.Fault) string {
	var signs string
	for _, f := range l {
		signs += []string{".", strconv.Itoa(f.N), "i", "s", "e", "p"}[f.Kind]
	}
	return signs
}

// jobOf is one of these arguments; a buffer has four bytes, a line eight.
func jobOf(in string, args ...string) api.Job {
	return api.Job{Args: args, In: []byte(in), Nodes: nodes(), Lim: lim(4, 8), Now: 7}
}

// job is jobOf a line of arguments, which blanks part.
func job(in, args string) api.Job { return jobOf(in, strings.Fields(args)...) }

func faulty(in, args, signs string) api.Job {
	j := job(in, args)
	j.Faults = faults(signs)
	return j
}

// two is a job of the files /x and /y, which say these bytes.
func two(x, y string, args ...string) api.Job {
	j := jobOf("q", append(args, "x", "y")...)
	j.Nodes = []api.Node{file("/x", x), file("/y", y)}
	j.Lim = lim(4, 60)
	return j
}

func run(t *testing.T, j api.Job) api.Result {
	t.Helper()
	r, ok := merge.Run(j)
	if !ok {
		t.Fatalf("%q was not run", j.Args)
	}
	return r
}

// within fails, if a job has held more than P14.1 and P14.2 let it, or has had more steps than utilities have (P5.5). Of join it fails, if it has held more than both readers do, a key, and the two groups that are most.
func within(t *testing.T, j api.Job, r api.Result) {
	t.Helper()
	held := 2 * (j.Lim.Line + j.Lim.Buf)
	if j.Args[0] == "join" {
		held += j.Lim.Line + groupsOf(j)
	}
	if r.Peak > held {
		t.Errorf("%q, In %q, Lim %v, faults %q: %d bytes were held, more than %d", j.Args, j.In, j.Lim, signsOf(j.Faults), r.Peak, held)
	}
	read, written := len(j.In), len(r.Out)+len(r.Err)
	a := askedOf(j.Args)
	for i, operand := range a.operands {
		if a.name == "uniq" && i == 1 {
			written += len(dataOf(r.Nodes, operand))
		} else if operand != "-" {
			read += len(dataOf(j.Nodes, operand))
		}
	}
	if most := 8 + 4*(len(j.Args)-1) + 3*read + 3*written + r.Used; r.Steps > most {
		t.Errorf("%q, In %q, Lim %v, faults %q: %d steps, more than %d", j.Args, j.In, j.Lim, signsOf(j.Faults), r.Steps, most)
	}
}

// dataOf are the bytes of a file; of one that there is not none.
func dataOf(l []api.Node, operand string) string {
	for _, n := range l {
		if n.Path == "/"+operand {
			return string(n.Data)
		}
	}
	return ""
}

// comes fails, if something else comes of a job, or if its tree changes.
func comes(t *testing.T, j api.Job, out, errs string, status int) api.Result {
	t.Helper()
	return comesTo(t, j, api.Result{Out: []byte(out), Err: []byte(errs), Status: status, Nodes: j.Nodes})
}

// comesTo fails, if what a job tells and says, its status or its tree are others, or if it holds too much, or has too many steps.
func comesTo(t *testing.T, j api.Job, want api.Result) api.Result {
	t.Helper()
	r := run(t, j)
	if string(r.Out) != string(want.Out) || string(r.Err) != string(want.Err) || r.Status != want.Status {
		t.Errorf("%q, In %q, Lim %v, faults %q: told %q, said %q, %d, not %q, %q, %d", j.Args, j.In, j.Lim, signsOf(j.Faults), r.Out, r.Err, r.Status, want.Out, want.Err, want.Status)
	}
	if tree := dumped(t, want.Nodes); !areSame(r.Nodes, tree) {
		t.Errorf("%q, In %q, Lim %v, faults %q: the tree is %v, not %v", j.Args, j.In, j.Lim, signsOf(j.Faults), r.Nodes, tree)
	}
	within(t, j, r)
	return r
}

// anyhow is comes, with buffers of one byte and more, and faults that are mild; nothing is said.
func anyhow(t *testing.T, j api.Job, out string) {
	t.Helper()
	j.Lim.Line, j.Lim.Run = 60, 60
	for _, buf := range []int{1, 2, 3, 5, 8, 4096} {
		j.Lim.Buf = buf
		for _, signs := range []string{"", "i1i2i3i4", strings.Repeat("1", 200)} {
			j.Faults = faults(signs)
			comes(t, j, out, "", 0)
		}
	}
}

// refuses fails, if a job does anything but say that its options or operands may not be.
func refuses(t *testing.T, args ...string) {
	t.Helper()
	status := 2
	if args[0] == "uniq" {
		status = 1
	}
	if r := comes(t, jobOf("a\na\n", args...), "", args[0]+": usage\n", status); r.Steps != 1 || r.Peak != 0 {
		t.Errorf("%q: %d steps, %d bytes were held", args, r.Steps, r.Peak)
	}
}

// with are nodes of which one is written at the tick 7: it has these bytes.
func with(l []api.Node, path, data string) []api.Node {
	l = slices.Clone(l)
	for i := range l {
		if l[i].Path == path {
			l[i].Data, l[i].Tick = []byte(data), 7
			return l
		}
	}
	return append(l, api.Node{Path: path, Mode: 0o644, Tick: 7, Data: []byte(data)})
}

func load(t *testing.T, l []api.Node) *tree.Tree {
	t.Helper()
	x, e := tree.Load(l)
	if e != api.OK {
		t.Fatalf("Load: error %d", e)
	}
	return x
}

// areSame holds nodes against each other.
func areSame(a, b []api.Node) bool {
	return slices.EqualFunc(a, b, func(x, y api.Node) bool {
		data := bytes.Equal(x.Data, y.Data) // nil and empty are the same
		x.Data, y.Data = nil, nil
		return data && reflect.DeepEqual(x, y)
	})
}

// dumped are nodes as a tree tells them.
func dumped(t *testing.T, l []api.Node) []api.Node {
	t.Helper()
	return load(t, l).Dump()
}

// rig is a process in a kernel, whose descriptor 0 is a source, 1 and 2 are sinks, till a test puts something else there.
type rig struct {
	t            *testing.T
	k            *kern.Kern
	p            *proc.Proc
	in, out, err int
}

func newRig(t *testing.T, j api.Job) *rig {
	t.Helper()
	k := kern.New(load(t, j.Nodes), j.Faults, j.Now)
	r := &rig{t: t, k: k, p: proc.New(k, j.Args, j.Env, j.Cwd, j.Lim), in: k.Source(j.In), out: k.Sink(), err: k.Sink()}
	r.put(r.in, r.out, r.err)
	return r
}

// put lets the first descriptors have these things; of 0 the descriptor has nothing.
func (r *rig) put(things ...int) {
	r.t.Helper()
	for fd, what := range things {
		r.p.Table().Close(fd)
		if what == 0 {
			continue
		}
		if e := r.p.Table().Put(fd, what); e != api.OK {
			r.t.Fatalf("Put: error %d", e)
		}
	}
}

// start is the process's machine.
func (r *rig) start() *proc.Machine {
	r.t.Helper()
	m := merge.Start(r.p)
	if m == nil {
		r.t.Fatalf("%q was not started", r.p.Args())
	}
	return m
}

// result steps the process to its end: what came of it. (With each step its main is gone through anew; that of Run is not.)
func (r *rig) result() api.Result {
	r.t.Helper()
	m := r.start()
	for !m.Step() {
	}
	return api.Result{
		Out: r.k.Said(r.out), Err: r.k.Said(r.err), Status: m.Status(), Nodes: r.k.Tree().Dump(),
		Steps: m.Steps(), Peak: m.Peak(), Used: r.k.Used(),
	}
}

// ends fails, if something else comes of the process.
func (r *rig) ends(out, errs string, status int) api.Result {
	r.t.Helper()
	got := r.result()
	if string(got.Out) != out || string(got.Err) != errs || got.Status != status {
		r.t.Errorf("%q: told %q, said %q, %d, not %q, %q, %d", r.p.Args(), got.Out, got.Err, got.Status, out, errs, status)
	}
	return got
}
