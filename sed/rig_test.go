package sed_test

import (
	"bytes"
	"reflect"
	"slices"
	"strconv"
	"strings"
	"testing"

	"toolchest/api"
	"toolchest/kern"
	"toolchest/proc"
	"toolchest/sed"
	"toolchest/tree"
)

// nodes are a directory /d, files of lines /d/g, /f (whose last line lacks its line feed), /h, /e (without bytes), two with a line of nine bytes: /k, whose second line that is, and /l, whose first one, and files of scripts: /none, /blank (one line without bytes), /double, /cut (without a last line feed), /text, /wrong (that may not be).
func nodes() []api.Node {
	return []api.Node{
		file("/blank", "\n"),
		file("/cut", "1d\n$s/b/B/"),
		{Path: "/d", Dir: true, Mode: 0o755},
		file("/d/g", "gg\n"),
		file("/double", "p\n"),
		file("/e", ""),
		file("/f", "a 1\nb 2\nab 3"),
		file("/h", "x\nB\n\nb\n"),
		file("/k", "a\n123456789\na\n"),
		file("/l", "123456789\na\n"),
		file("/none", ""),
		file("/text", "a\\\none\\\n"),
		file("/wrong", "p\n[\n"),
	}
}

func file(path, data string) api.Node { return api.Node{Path: path, Mode: 0o600, Data: []byte(data)} }

func lim(buf, line int) api.Limits { return api.Limits{Buf: buf, Line: line, Run: line} }

// faults are written as signs: `.` none, a digit cuts short, `i` interrupts, `e`, `s` and `p` let it fail (ErrIO, ErrNoSpace, ErrPipe).
func faults(signs string) []api.Fault {
	kinds := map[rune]int{'.': api.FaultNone, 'i': api.FaultIntr, 'e': api.FaultIO, 's': api.FaultSpace, 'p': api.FaultPipe}
	var l []api.Fault
	for _, c := range signs {
		f := api.Fault{Kind: api.FaultShort, N: int(c - '0')}
		if kind, ok := kinds[c]; ok {
			f = api.Fault{Kind: kind}
		}
		l = append(l, f)
	}
	return l
}

// signsOf are the signs of faults, for what a test says.
func signsOf(l []api.Fault) string {
	var signs string
	for _, f := range l {
		signs += []string{".", strconv.Itoa(f.N), "i", "s", "e", "p"}[f.Kind]
	}
	return signs
}

// jobOf is one of these arguments; a buffer has four bytes, a line eight.
func jobOf(in string, args ...string) api.Job {
	return api.Job{Args: args, In: []byte(in), Nodes: nodes(), Lim: lim(4, 8), Now: 7}
}

// job is jobOf a line of arguments, between which stands one blank: where there are two together, one without bytes stands between them.
func job(in, args string) api.Job { return jobOf(in, strings.Split(args, " ")...) }

func faulty(in, args, signs string) api.Job {
	j := job(in, args)
	j.Faults = faults(signs)
	return j
}

func run(t *testing.T, j api.Job) api.Result {
	t.Helper()
	r, ok := sed.Run(j)
	if !ok {
		t.Fatalf("%q was not run", j.Args)
	}
	return r
}

// within fails, if a job has held more, or has had more steps, than P18.7 lets it.
func within(t *testing.T, j api.Job, r api.Result) {
	t.Helper()
	a := askedOf(j)
	held := j.Lim.Line + j.Lim.Buf
	if a.keeps() {
		held += 2 * max(api.MaxSpace, j.Lim.Line)
	}
	if r.Peak > held {
		t.Errorf("%q, In %q, Lim %v, faults %q: %d bytes were held", j.Args, j.In, j.Lim, signsOf(j.Faults), r.Peak)
	}
	read := len(j.In)
	for _, operand := range slices.Concat(a.files, a.inputs) {
		read += len(dataOf(j.Nodes, operand))
	}
	if most := 8 + 4*(len(j.Args)-1) + 3*read + 3*(len(r.Out)+len(r.Err)) + r.Used; r.Steps > most {
		t.Errorf("%q, In %q, Lim %v, faults %q: %d steps, more than %d", j.Args, j.In, j.Lim, signsOf(j.Faults), r.Steps, most)
	}
}

// dataOf are the bytes of a file; of one that there is not none.
func dataOf(l []api.Node, operand string) string {
	for _, n := range l {
		if n.Path == "/"+strings.TrimPrefix(operand, "./") {
			return string(n.Data)
		}
	}
	return ""
}

// comes fails, if something else comes of a job, if its tree changes, or if it holds too much, or has too many steps.
func comes(t *testing.T, j api.Job, out, errs string, status int) api.Result {
	t.Helper()
	r := run(t, j)
	if string(r.Out) != out || string(r.Err) != errs || r.Status != status {
		t.Errorf("%q, In %q, Lim %v, faults %q: told %q, said %q, %d, not %q, %q, %d", j.Args, j.In, j.Lim, signsOf(j.Faults), r.Out, r.Err, r.Status, out, errs, status)
	}
	if before := load(t, j.Nodes).Dump(); !areSame(r.Nodes, before) {
		t.Errorf("%q: the tree is %v, not %v", j.Args, r.Nodes, before)
	}
	within(t, j, r)
	return r
}

// anyhow is comes, with buffers of one byte and more, and faults that are mild.
func anyhow(t *testing.T, j api.Job, out, errs string, status int) {
	t.Helper()
	for _, buf := range []int{1, 2, 3, 5, 8, 4096} {
		j.Lim.Buf = buf
		for _, signs := range []string{"", "i1i2i3i4", strings.Repeat("1", 200), "ii2iii"} {
			j.Faults = faults(signs)
			if r := comes(t, j, out, errs, status); string(r.Out) != out || string(r.Err) != errs {
				return // one way to fail is enough
			}
		}
	}
}

// tells is anyhow, where nothing is said.
func tells(t *testing.T, in, out string, args ...string) {
	t.Helper()
	anyhow(t, jobOf(in, args...), out, "", 0)
}

// edits is tells, of a script; with -n, too, if something else is told then.
func edits(t *testing.T, in, script, out string, quiet ...string) {
	t.Helper()
	tells(t, in, out, "sed", "--", script)
	for _, out := range quiet {
		tells(t, in, out, "sed", "-n", "--", script)
	}
}

// refuses fails, if a job does anything but say that its options or operands may not be.
func refuses(t *testing.T, args ...string) {
	t.Helper()
	if r := comes(t, jobOf("a\na\n", args...), "", "sed: usage\n", 1); r.Steps != 1 || r.Peak != 0 {
		t.Errorf("%q: %d steps, %d bytes were held", args, r.Steps, r.Peak)
	}
}

func load(t *testing.T, l []api.Node) *tree.Tree {
	t.Helper()
	x, e := tree.Load(l)
	if e != api.OK {
		t.Fatalf("Load: error %d", e)
	}
	return x
}

// areSame holds nodes against each other.
func areSame(a, b []api.Node) bool {
	return slices.EqualFunc(a, b, func(x, y api.Node) bool {
		data := bytes.Equal(x.Data, y.Data) // nil and empty are the same
		x.Data, y.Data = nil, nil
		return data && reflect.DeepEqual(x, y)
	})
}

// rig is a process in a kernel, whose descriptor 0 is a source, 1 and 2 are sinks, till a test puts something else there.
type rig struct {
	t            *testing.T
	k            *kern.Kern
	p            *proc.Proc
	in, out, err int
}

func newRig(t *testing.T, j api.Job) *rig {
	t.Helper()
	k := kern.New(load(t, j.Nodes), j.Faults, j.Now)
	r := &rig{t: t, k: k, p: proc.New(k, j.Args, j.Env, j.Cwd, j.Lim), in: k.Source(j.In), out: k.Sink(), err: k.Sink()}
	r.put(r.in, r.out, r.err)
	return r
}

// put lets the first descriptors have these things; of 0 the descriptor has nothing.
func (r *rig) put(things ...int) {
	r.t.Helper()
	for fd, what := range things {
		r.p.Table().Close(fd)
		if what == 0 {
			continue
		}
		if e := r.p.Table().Put(fd, what); e != api.OK {
			r.t.Fatalf("Put: error %d", e)
		}
	}
}

// start is the process's machine.
func (r *rig) start() *proc.Machine {
	r.t.Helper()
	m := sed.Start(r.p)
	if m == nil {
		r.t.Fatalf("%q was not started", r.p.Args())
	}
	return m
}

// result steps the process to its end: what came of it. (With each step its main is gone through anew; that of Run is not.)
func (r *rig) result() api.Result {
	r.t.Helper()
	m := r.start()
	for !m.Step() {
	}
	return api.Result{
		Out: r.k.Said(r.out), Err: r.k.Said(r.err), Status: m.Status(), Nodes: r.k.Tree().Dump(),
		Steps: m.Steps(), Peak: m.Peak(), Used: r.k.Used(),
	}
}

// ends fails, if something else comes of the process.
func (r *rig) ends(out, errs string, status int) {
	r.t.Helper()
	got := r.result()
	if string(got.Out) != out || string(got.Err) != errs || got.Status != status {
		r.t.Errorf("%q: told %q, said %q, %d, not %q, %q, %d", r.p.Args(), got.Out, got.Err, got.Status, out, errs, status)
	}
}

// left is what of the source was not read.
func (r *rig) left() string {
	r.t.Helper()
	x := r.k.Table()
	x.Put(0, r.in)
	b, e := x.Read(0, 1<<20)
	if e != api.OK {
		r.t.Fatalf("Read: error %d", e)
	}
	return string(b)
}
