package stepio_test

import (
	"reflect"
	"strings"
	"testing"

	"toolchest/api"
	"toolchest/kern"
	"toolchest/proc"
	"toolchest/stepio"
	"toolchest/tree"
)

// P5.4

func TestExamples(t *testing.T) {
	comes(t, job("ab\nc", "lines"), "[ab]\n(c)\n", "", 0)
	j := job("ab\nc", "lines")
	j.Lim.Line = 1
	comes(t, j, "", "lines: -: line too long\n", 1)
	comes(t, job("q", "chunks", "x", "-"), "q", "chunks: x: no such file\n", 1)
}

func TestChunks(t *testing.T) {
	comes(t, job("", "chunks"), "", "", 0)
	comes(t, job("a\n\nbc", "chunks"), "a\n\nbc", "", 0)
	comes(t, job("abcdefghi", "chunks", "-"), "abcdefghi", "", 0)
	comes(t, job("q", "chunks", "f", "-", "d/g"), "one\ntwoqgg\n", "", 0)
	comes(t, job("q", "chunks", "f", "e", "f"), "one\ntwoone\ntwo", "", 0)
	comes(t, job("q", "chunks", "-", "f", "-"), "qone\ntwo", "", 0)
	long := strings.Repeat("x", 500)
	comes(t, job(long, "chunks"), long, "", 0)
}

func TestLines(t *testing.T) {
	comes(t, job("", "lines"), "", "", 0)
	comes(t, job("\n", "lines"), "[]\n", "", 0)
	comes(t, job("a\n\nb", "lines"), "[a]\n[]\n(b)\n", "", 0)
	comes(t, job("a\n\n", "lines", "-"), "[a]\n[]\n", "", 0)
	comes(t, job("q", "lines", "f", "e", "-", "d/g"), "[one]\n(two)\n(q)\n[gg]\n", "", 0)
	comes(t, job("q\n", "lines", "-", "-"), "[q]\n", "", 0)
}

// Arguments are inputs, whatever they look like.
func TestNoOptions(t *testing.T) {
	comes(t, job("q", "chunks", "--", "-n"), "", "chunks: --: no such file\nchunks: -n: no such file\n", 1)
	comes(t, job("q", "lines", ""), "", "lines: no such file\n", 1)
}

// F1
func TestInputsThatFail(t *testing.T) {
	comes(t, job("q", "chunks", "x", "f", "d", "-", "y"), "one\ntwoq", "chunks: x: no such file\nchunks: d: is a directory\nchunks: y: no such file\n", 1)
	comes(t, job("q", "lines", "f/x", "d", "d/g"), "[gg]\n", "lines: f/x: not a directory\nlines: d: is a directory\n", 1)
	j := job("abcde\nx\n", "lines", "f", "-", "d/g")
	j.Lim.Line = 4
	comes(t, j, "[one]\n(two)\n[gg]\n", "lines: -: line too long\n", 1)
	j.In = []byte("ab\nabcde\nx\n")
	comes(t, j, "[one]\n(two)\n[ab]\n[gg]\n", "lines: -: line too long\n", 1)
	j.Args = []string{"lines", "-", "f", "-"} // where it is twice, it has ended once for all, however its Reads were cut
	for _, signs := range []string{"", "1", "......1", "....2i2i2"} {
		j.Faults = faults(signs)
		comes(t, j, "[ab]\n[one]\n(two)\n", "lines: -: line too long\n", 1)
	}
	j.Faults = nil
	j.Args = []string{"chunks", "f", "-", "d/g"} // by which no lines are read
	comes(t, j, "one\ntwoab\nabcde\nx\ngg\n", "", 0)
}

// F1: transfers are, of chunks: a Read, a Write, and so on; one of an input of four bytes or fewer, and of a line, is one.
func TestReadsThatFail(t *testing.T) {
	for _, c := range []struct {
		signs, args, in string
		out, errs       string
	}{
		{"e", "chunks", "abcdef", "", "chunks: -: input/output error\n"},
		{"..e", "chunks", "abcdef", "abcd", "chunks: -: input/output error\n"},
		{"..e", "chunks - d/g", "abcdef", "abcdgg\n", "chunks: -: input/output error\n"},
		{"..e", "chunks - -", "abcdef", "abcdef", "chunks: -: input/output error\n"},
		{"..e", "chunks f d/g", "", "one\ngg\n", "chunks: f: input/output error\n"},
		{"..e", "lines f d/g", "", "[one]\n[gg]\n", "lines: f: input/output error\n"},
		{"...e", "lines f d/g", "", "[one]\n[gg]\n", "lines: f: input/output error\n"},
		{".e", "lines", "abcdef\ng\n", "", "lines: -: input/output error\n"},
		{"..e", "lines", "a\nbcdef\ng\n", "[a]\n", "lines: -: input/output error\n"},
		{"e..e", "lines - x -", "a\nb", "", "lines: -: input/output error\nlines: x: no such file\nlines: -: input/output error\n"},
	} {
		j := job(c.in, strings.Fields(c.args)...)
		j.Faults = faults(c.signs)
		comes(t, j, c.out, c.errs, 1)
	}
}

// F2: said is one line, of nothing but the output.
func TestOutputThatFails(t *testing.T) {
	for _, c := range []struct {
		signs, args, in string
		out, errs       string
	}{
		{".e", "chunks", "abcdef", "", "chunks: standard output: input/output error\n"},
		{".s", "chunks - f", "abcdef", "", "chunks: standard output: no space left\n"},
		{".p", "chunks", "abcdef", "", "chunks: standard output: broken pipe\n"},
		{".2e", "chunks", "abcdef", "ab", "chunks: standard output: input/output error\n"},
		{"...s", "chunks - x", "abcdef", "abcd", "chunks: standard output: no space left\n"},
		{"....s", "chunks f x", "", "one\ntwo", "chunks: x: no such file\n"}, // a Read does not mind it
		{".e", "lines", "ab\ncd", "", "lines: standard output: input/output error\n"},
		{".3p", "lines", "ab\ncd", "[ab", "lines: standard output: broken pipe\n"},
		{"..1i1s", "lines x -", "ab\ncd", "[a", "lines: x: no such file\nlines: standard output: no space left\n"},
		{"....e", "lines", "ab\ncd", "[ab]\n", "lines: standard output: input/output error\n"},
	} {
		j := job(c.in, strings.Fields(c.args)...)
		j.Faults = faults(c.signs)
		comes(t, j, c.out, c.errs, 1)
	}
}

// Whatever follows is neither opened nor read, and said is one line.
func TestOutputThatFailsEndsIt(t *testing.T) {
	j := job("abcd", "chunks", "-", "x", "f")
	j.Faults = faults(".e.e")
	r := comes(t, j, "", "chunks: standard output: input/output error\n", 1)
	if r.Steps != 3 || r.Used != 3 {
		t.Errorf("%d steps, %d faults", r.Steps, r.Used)
	}
}

// F3
func TestErrorsThatCantBeSaid(t *testing.T) {
	j := job("q", "chunks", "x", "y", "-")
	j.Faults = faults("e3s")
	comes(t, j, "q", "chu", 1)
	j = job("q", "lines", "-", "f")
	j.Faults = faults(".ee")
	comes(t, j, "[one]\n(two)\n", "", 1)
	j.Faults = faults("..ee")
	comes(t, j, "", "", 1)
}

func TestOtherNames(t *testing.T) {
	x, _ := tree.Load(nil)
	k := kern.New(x, nil, 0)
	for _, args := range [][]string{nil, {}, {""}, {"chunk"}, {"lines "}, {"Lines"}, {"cat", "lines"}, {"/chunks"}} {
		p := proc.New(k, args, nil, "/", lim(1, 1))
		if stepio.Start(p) != nil {
			t.Errorf("%q was started", args)
		}
		j := job("q", args...)
		if r, ok := stepio.Run(j); ok || !reflect.DeepEqual(r, api.Result{}) {
			t.Errorf("%q was run: %v", args, r)
		}
	}
}

func TestJobsThatMayNotBe(t *testing.T) {
	for name, change := range map[string]func(j *api.Job){
		"no buffer":    func(j *api.Job) { j.Lim.Buf = 0 },
		"no line":      func(j *api.Job) { j.Lim.Line = 0 },
		"a short run":  func(j *api.Job) { j.Lim.Run = j.Lim.Line - 1 },
		"no directory": func(j *api.Job) { j.Cwd = "/f" },
		"a bad tree":   func(j *api.Job) { j.Nodes = append(j.Nodes, j.Nodes[0]) },
	} {
		j := job("q", "chunks")
		change(&j)
		if r, ok := stepio.Run(j); ok || !reflect.DeepEqual(r, api.Result{}) {
			t.Errorf("%s: it was run: %v", name, r)
		}
	}
}

// The tree stays as it is, and paths are taken from Cwd on.
func TestCwd(t *testing.T) {
	j := job("q", "lines", "g", "../f", "./-")
	j.Cwd = "/d"
	r := comes(t, j, "[gg]\n[one]\n(two)\n", "lines: ./-: no such file\n", 1)
	x, _ := tree.Load(nodes())
	if !reflect.DeepEqual(r.Nodes, x.Dump()) {
		t.Errorf("the tree has changed: %v", r.Nodes)
	}
}

// More inputs than there are descriptors: each is closed behind its turn, also one that fails.
func TestInputsAreClosed(t *testing.T) {
	args := []string{"chunks"}
	var errs string
	for range 20 {
		args = append(args, "f", "d")
		errs += "chunks: d: is a directory\n"
	}
	comes(t, job("", args...), strings.Repeat("one\ntwo", 20), errs, 1)
}

// Limits at 1.
func TestLeastLimits(t *testing.T) {
	j := job("a\n\nb\n", "lines")
	j.Lim = lim(1, 1)
	if r := comes(t, j, "[a]\n[]\n[b]\n", "", 0); r.Peak != 2 {
		t.Errorf("%d bytes were held at most, not 2", r.Peak)
	}
	j.Args[0] = "chunks"
	if r := comes(t, j, "a\n\nb\n", "", 0); r.Peak != 1 {
		t.Errorf("%d bytes were held at most, not 1", r.Peak)
	}
}

// R4
func TestRunKeepsNothing(t *testing.T) {
	j := job("ab\nc", "lines", "-", "f")
	first := run(t, j)
	second := run(t, j)
	if !reflect.DeepEqual(j, job("ab\nc", "lines", "-", "f")) {
		t.Errorf("the job has changed: %v", j)
	}
	scribble(first.Out)
	for _, n := range first.Nodes {
		scribble(n.Data)
	}
	if third := run(t, j); !reflect.DeepEqual(second, third) {
		t.Errorf("%v, not %v", third, second)
	}
}

// Step by step: with each step a call, of which nothing is seen ahead of it.
func TestStepByStep(t *testing.T) {
	r := newRig(t, "ab\nc", lim(4, 5), "")
	p := proc.New(r.k, []string{"lines", "x"}, nil, "/", lim(4, 5))
	p.Table().Put(0, r.k.Source([]byte("ab\nc")))
	p.Table().Put(1, r.out)
	p.Table().Put(2, r.errs)
	m := stepio.Start(p)
	r.said("", "")
	if m.Step() { // Open
		t.Error("it has ended")
	}
	r.said("", "")
	if !m.Step() { // Write of the error
		t.Error("it has not ended")
	}
	r.said("", "lines: x: no such file\n")
	if m.Status() != 1 || m.Steps() != 2 {
		t.Errorf("%d, %d steps", m.Status(), m.Steps())
	}
}

// box starts chunks and lines, and what a test makes of any other name.
type box struct{ other func(p *proc.Proc) int }

func (b box) Start(p *proc.Proc) *proc.Machine {
	if m := stepio.Start(p); m != nil {
		return m
	}
	return proc.Go(p, b.other)
}

// Two processes with a pipe between them: whosever turn it is, it tells the same.
func TestPipeline(t *testing.T) {
	in := strings.Repeat("line of a pipe\n\n", 30) + "end"
	want := strings.Repeat("[line of a pipe]\n[]\n", 30) + "(end)\n"
	for _, picks := range [][]int{nil, {1, 1, 1, 0, 1}, {0, 0, 0, 0, 0, 0, 0, 0, 0, 0, 0, 0, 0, 0, 0, 0, 0, 0, 1}} {
		j := job(in, "sh")
		j.Picks = picks
		j.Lim = lim(9, 20)
		r, ok := proc.Run(j, func(p *proc.Proc) *proc.Machine {
			p.In(box{})
			return proc.Go(p, pipeline)
		})
		if !ok || string(r.Out) != want || len(r.Err) > 0 || r.Status != 0 {
			t.Errorf("%v: %v, told %q, said %q, %d", picks, ok, r.Out, r.Err, r.Status)
		}
	}
}

func pipeline(p *proc.Proc) int {
	from, to, _ := p.Pipe()
	shut := []api.Move{{From: -1, To: from}, {From: -1, To: to}}
	a, _ := p.Spawn([]string{"chunks"}, nil, "/", append([]api.Move{{From: to, To: 1}}, shut...))
	b, _ := p.Spawn([]string{"lines"}, nil, "/", append([]api.Move{{From: from, To: 0}}, shut...))
	p.Close(from)
	p.Close(to)
	first, _ := p.Wait(a)
	second, _ := p.Wait(b)
	return first + second
}
