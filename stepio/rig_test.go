package stepio_test

import (
	"strconv"
	"strings"
	"testing"

	"toolchest/api"
	"toolchest/kern"
	"toolchest/proc"
	"toolchest/stepio"
	"toolchest/tree"
)

// nodes are the directory /d, and the files /d/g (`gg`, a line feed), /e (no bytes), /f (`one`, a line feed, `two`).
func nodes() []api.Node {
	return []api.Node{
		{Path: "/d", Dir: true, Mode: 0o755, Tick: 7},
		{Path: "/d/g", Mode: 0o600, Tick: 7, Data: []byte("gg\n")},
		{Path: "/e", Mode: 0o600, Tick: 7},
		{Path: "/f", Mode: 0o600, Tick: 7, Data: []byte("one\ntwo")},
	}
}

func lim(buf, line int) api.Limits { return api.Limits{Buf: buf, Line: line, Run: line} }

// faults are written as signs: `.` none, a digit cuts short, `i` interrupts, `e`, `s` and `p` let it fail (ErrIO, ErrNoSpace, ErrPipe).
func faults(signs string) []api.Fault {
	var l []api.Fault
	for _, c := range signs {
		switch c {
		case 'i':
			l = append(l, api.Fault{Kind: api.FaultIntr})
		case 'e':
			l = append(l, api.Fault{Kind: api.FaultIO})
		case 's':
			l = append(l, api.Fault{Kind: api.FaultSpace})
		case 'p':
			l = append(l, api.Fault{Kind: api.FaultPipe})
		case '.':
			l = append(l, api.Fault{})
		default:
			l = append(l, api.Fault{Kind: api.FaultShort, N: int(c - '0')})
		}
	}
	return l
}

// rig is a process in a kernel, whose descriptor 0 is a source, 1 and 2 are sinks. Its calls are done at once; watch tells what it holds.
type rig struct {
	t     *testing.T
	k     *kern.Kern
	p     *proc.Proc
	out   int
	errs  int
	watch *proc.Machine
}

func newRig(t *testing.T, in string, l api.Limits, signs string) *rig {
	t.Helper()
	x, e := tree.Load(nodes())
	if e != api.OK {
		t.Fatalf("Load: error %d", e)
	}
	k := kern.New(x, faults(signs), 9)
	r := &rig{t: t, k: k, p: proc.New(k, []string{"u", "-"}, nil, "/d", l)}
	r.out, r.errs = k.Sink(), k.Sink()
	r.p.Table().Put(0, k.Source([]byte(in)))
	r.p.Table().Put(1, r.out)
	r.p.Table().Put(2, r.errs)
	r.watch = proc.Go(r.p, func(p *proc.Proc) int {
		p.Close(15) // it waits here, and never does it
		return 0
	})
	return r
}

func (r *rig) is(what string, got, want api.Errno) {
	r.t.Helper()
	if got != want {
		r.t.Errorf("%s: error %d, not %d", what, got, want)
	}
}

func (r *rig) said(out, errs string) {
	r.t.Helper()
	if s := string(r.k.Said(r.out)); s != out {
		r.t.Errorf("told %q, not %q", s, out)
	}
	if s := string(r.k.Said(r.errs)); s != errs {
		r.t.Errorf("said %q, not %q", s, errs)
	}
}

// used fails, if another number of transfers met a fault (one of no kind is one, too).
func (r *rig) used(want int) {
	r.t.Helper()
	if n := r.k.Used(); n != want {
		r.t.Errorf("%d faults used, not %d", n, want)
	}
}

func (r *rig) held(what string, want int) {
	r.t.Helper()
	if n := r.watch.Held(); n != want {
		r.t.Errorf("%s: %d bytes are held, not %d", what, n, want)
	}
}

// do makes calls of a reader, one for each sign: `C` Chunk, `L` Line, `M` More, `F` Feed, `X` Free. Each is told by its answer and what is held then: a chunk as `abc@3`, a line as `<ab>@2`, the end as `.@0`, an error as `!7@0`.
func (r *rig) do(in *stepio.Reader, calls string) string {
	var l []string
	for _, c := range calls {
		l = append(l, r.doOne(in, c)+"@"+strconv.Itoa(r.watch.Held()))
	}
	return strings.Join(l, " ")
}

func (r *rig) doOne(in *stepio.Reader, c rune) string {
	switch c {
	case 'C':
		b, e := in.Chunk()
		return answer(b, len(b) > 0, e, "", "")
	case 'L':
		b, ok, e := in.Line()
		return answer(b, ok, e, "<", ">")
	case 'M':
		more, e := in.More()
		if e != api.OK {
			return answer(nil, more, e, "", "")
		}
		return map[bool]string{true: "yes", false: "no"}[more]
	case 'F':
		return map[bool]string{true: "feed", false: "none"}[in.Feed()]
	}
	in.Free()
	return "free"
}

func answer(b []byte, ok bool, e api.Errno, left, right string) string {
	switch {
	case e != api.OK && (ok || len(b) > 0):
		return "something beside an error"
	case e != api.OK:
		return "!" + strconv.Itoa(int(e))
	case !ok && len(b) > 0:
		return "something beside a false"
	case !ok:
		return "."
	}
	return left + string(b) + right
}

// reads fails, if calls of a new reader of the descriptor 0 are answered otherwise than that.
func reads(t *testing.T, in string, buf, line int, signs, calls, want string) *rig {
	t.Helper()
	r := newRig(t, in, lim(buf, line), signs)
	if got := r.do(stepio.New(r.p, 0), calls); got != want {
		t.Errorf("%q, Buf %d, Line %d, faults %q, %s: %q, not %q", in, buf, line, signs, calls, got, want)
	}
	return r
}

func job(in string, args ...string) api.Job {
	return api.Job{Args: args, In: []byte(in), Nodes: nodes(), Lim: lim(4, 60), Now: 9}
}

func run(t *testing.T, j api.Job) api.Result {
	t.Helper()
	r, ok := stepio.Run(j)
	if !ok {
		t.Fatalf("%q was not run", j.Args)
	}
	return r
}

// comes fails, if something else comes of a job.
func comes(t *testing.T, j api.Job, out, errs string, status int) api.Result {
	t.Helper()
	r := run(t, j)
	if string(r.Out) != out || string(r.Err) != errs || r.Status != status {
		t.Errorf("%q, In %q: told %q, said %q, %d, not %q, %q, %d", j.Args, j.In, r.Out, r.Err, r.Status, out, errs, status)
	}
	return r
}
