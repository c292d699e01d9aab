package task_test

import (
	"strconv"
	"strings"
	"testing"

	"toolchest/api"
	"toolchest/opt"
	"toolchest/proc"
	"toolchest/task"
)

// starts is what starts one utility, `u`, with the letters a and b, of which b has an argument.
func starts(do func(t *task.Task)) func(p *proc.Proc) *proc.Machine {
	return func(p *proc.Proc) *proc.Machine {
		return task.Start(p, map[string]task.Utility{"u": {Spec: "ab:", Do: do}})
	}
}

// comes runs a job of a line of arguments, with a few files (of /l a line is too long) and the directory /d, and fails, if something else comes of it.
func comes(t *testing.T, do func(t *task.Task), faults []api.Fault, args, out, errs string, status int) api.Result {
	t.Helper()
	r, ok := proc.Run(api.Job{
		Args:   strings.Fields(args),
		In:     []byte("a\n\nbcd"),
		Nodes:  []api.Node{{Path: "/d", Dir: true}, {Path: "/e"}, {Path: "/f", Data: []byte("one\ntwo")}, {Path: "/l", Data: []byte("p\nfour\nq\n")}},
		Lim:    api.Limits{Buf: 2, Line: 3, Run: 3},
		Faults: faults,
	}, starts(do))
	if !ok || string(r.Out) != out || string(r.Err) != errs || r.Status != status {
		t.Errorf("%s, faults %v: %v, told %q, said %q, %d, not %q, %q, %d", args, faults, ok, r.Out, r.Err, r.Status, out, errs, status)
	}
	return r
}

func TestStart(t *testing.T) {
	for _, args := range [][]string{nil, {""}, {"v"}, {"uu"}, {"x", "u"}} {
		j := api.Job{Args: args, Lim: api.Limits{Buf: 1, Line: 1, Run: 1}}
		if _, ok := proc.Run(j, starts(func(*task.Task) {})); ok {
			t.Errorf("%q was run", args)
		}
	}
}

func TestArguments(t *testing.T) {
	do := func(t *task.Task) {
		arg, _ := opt.Last(t.Opts, 'b')
		t.Tell([]byte(arg + "|" + strings.Join(t.Operands, ",")))
	}
	comes(t, do, nil, "u", "|", "", 0)
	comes(t, do, nil, "u -a -b 1 x y", "1|x,y", "", 0)
	comes(t, do, nil, "u -b1 -- -a", "1|-a", "", 0)
	comes(t, do, nil, "u -c", "", "u: usage\n", 1)
	comes(t, do, nil, "u -b", "", "u: usage\n", 1)
	comes(t, (*task.Task).Refuse, nil, "u", "", "u: usage\n", 1)
}

// One that is plain has no options, whatever its arguments look like.
func TestPlain(t *testing.T) {
	do := func(t *task.Task) {
		t.Tell([]byte(strconv.Itoa(len(t.Opts)) + "|" + strings.Join(t.Operands, ",")))
	}
	start := func(p *proc.Proc) *proc.Machine {
		return task.Start(p, map[string]task.Utility{"u": {Spec: "ab:", Plain: true, Do: do}, "v": {Spec: "ab:", Do: do}})
	}
	for args, out := range map[string]string{
		"u":               "0|",
		"u x":             "0|x",
		"u -a -b -- -c -": "0|-a,-b,--,-c,-",
		"u -- -a":         "0|--,-a",
		"v -a -b1 -- -c":  "2|-c",
	} {
		r, ok := proc.Run(api.Job{Args: strings.Fields(args), Lim: api.Limits{Buf: 1, Line: 1, Run: 1}}, start)
		if !ok || string(r.Out) != out || len(r.Err) != 0 || r.Status != 0 {
			t.Errorf("%s: %v, told %q, said %q, %d, not %q", args, ok, r.Out, r.Err, r.Status, out)
		}
	}
}

// titles tells of each input its text, and its pieces as they come.
func titles(t *task.Task, pieces func(in *task.Input)) {
	for in := range t.Read(t.Operands) {
		t.Tell([]byte(in.Text + ":"))
		pieces(in)
		if in.Failed() {
			t.Tell([]byte("!"))
		}
	}
}

func chunks(t *task.Task) {
	titles(t, func(in *task.Input) {
		for b := range in.Chunks() {
			t.Tell(append(b, '|'))
		}
	})
}

func lines(t *task.Task) {
	titles(t, func(in *task.Input) {
		for line, hasFeed := range in.Lines() {
			end := byte('.')
			if hasFeed {
				end = '$'
			}
			t.Tell(append(line, end))
		}
	})
}

func TestInputs(t *testing.T) {
	comes(t, chunks, nil, "u", "-:a\n|\nb|cd|", "", 0)
	comes(t, chunks, nil, "u f e - -", "f:on|e\n|tw|o|e:-:a\n|\nb|cd|-:", "", 0)
	comes(t, chunks, nil, "u x d e f/x", "d:!e:", "u: x: no such file\nu: d: is a directory\nu: f/x: not a directory\n", 1)
	comes(t, lines, nil, "u", "-:a$$bcd.", "", 0)
	comes(t, lines, nil, "u f e -", "f:one$two.e:-:a$$bcd.", "", 0)
	comes(t, lines, nil, "u x - -", "-:a$$bcd.-:", "u: x: no such file\n", 1)
}

func TestInputsThatFail(t *testing.T) {
	faults := []api.Fault{{}, {}, {}, {Kind: api.FaultIO}}
	comes(t, chunks, faults, "u e -", "e:-:!", "u: -: input/output error\n", 1)
	comes(t, chunks, faults, "u - e -", "-:a\n|!e:-:", "u: -: input/output error\n", 1)
	comes(t, lines, faults[1:], "u f", "f:!", "u: f: input/output error\n", 1)
	comes(t, lines, nil, "u l e", "l:p$!e:", "u: l: line too long\n", 1)
}

// One that is silent says nothing of what fails of inputs, but of all else.
func TestSilent(t *testing.T) {
	silent := func(do func(t *task.Task)) func(t *task.Task) {
		return func(t *task.Task) {
			t.Silent = true
			do(t)
		}
	}
	faults := []api.Fault{{}, {}, {}, {Kind: api.FaultIO}}
	comes(t, silent(chunks), nil, "u x d e f/x", "d:!e:", "", 1)
	comes(t, silent(lines), nil, "u l e", "l:p$!e:", "", 1)
	comes(t, silent(chunks), faults, "u - e -", "-:a\n|!e:-:", "", 1)
	comes(t, silent(rows), nil, "u d l f", ".p$one$..two$...d!l!", "", 1)
	comes(t, silent(bytesOf(1)), nil, "u f", "f:o|n|e|\n|t|!", "", 1)
	comes(t, silent(func(t *task.Task) { t.Fail("x", api.ErrIO) }), nil, "u", "", "u: x: input/output error\n", 1)
	comes(t, silent((*task.Task).Refuse), nil, "u", "", "u: usage\n", 1)
	tell := func(t *task.Task) { t.Tell([]byte("y")) }
	comes(t, silent(tell), []api.Fault{{Kind: api.FaultSpace}}, "u", "", "u: standard output: no space left\n", 1)
}

// An input is read on from where it was looked at.
func TestReadable(t *testing.T) {
	do := func(t *task.Task) {
		for in := range t.Read(t.Operands) {
			if in.IsReadable() && in.IsReadable() {
				t.Tell([]byte(in.Text + ":"))
				for b := range in.Chunks() {
					t.Tell(b)
				}
			}
		}
	}
	comes(t, do, nil, "u e f", "e:f:one\ntwo", "", 0)
	comes(t, do, nil, "u - d f -", "-:a\n\nbcdf:one\ntwo-:", "u: d: is a directory\n", 1)
	comes(t, do, []api.Fault{{Kind: api.FaultIO}}, "u f e", "e:", "u: f: input/output error\n", 1)
}

// An input that is left ahead of its end is held no more, and closed; others come behind it.
func TestInputsThatAreLeft(t *testing.T) {
	do := func(t *task.Task) {
		for in := range t.Read(t.Operands) {
			for b := range in.Chunks() {
				t.Tell(b)
				break
			}
		}
	}
	if r := comes(t, do, nil, "u"+strings.Repeat(" f", 30), strings.Repeat("on", 30), "", 0); r.Peak != 2 {
		t.Errorf("%d bytes were held", r.Peak)
	}
}

// rows tells of inputs that are open at once three lines each, in turn, and of each whether it has failed.
func rows(t *task.Task) {
	var inputs []*task.Input
	for _, operand := range task.Inputs(t.Operands) {
		inputs = append(inputs, t.Open(operand))
	}
	for range 3 {
		for _, in := range inputs {
			line, ok := in.Line()
			end := byte('.')
			if ok {
				end = '$'
			}
			t.Tell(append(line, end))
		}
	}
	for _, in := range inputs {
		if in.Failed() {
			t.Tell([]byte(in.Text + "!"))
		}
		in.Close()
	}
}

func TestInputsAtOnce(t *testing.T) {
	comes(t, rows, nil, "u", "a$$bcd$", "", 0)
	comes(t, rows, nil, "u f e -", "one$.a$two$.$..bcd$", "", 0)
	comes(t, rows, nil, "u x f", ".one$.two$..x!", "u: x: no such file\n", 1)
	comes(t, rows, nil, "u d l f", ".p$one$..two$...d!l!", "u: d: is a directory\nu: l: line too long\n", 1)
	// One that has failed is not read on, though it might be.
	faults := []api.Fault{{Kind: api.FaultIO}}
	comes(t, rows, faults, "u -", "...-!", "u: -: input/output error\n", 1)
	many := strings.Repeat(" e", 13)
	comes(t, rows, nil, "u"+many+" f -", strings.Repeat(".", 13)+".a$"+strings.Repeat(".", 13)+".$"+strings.Repeat(".", 13)+".bcd$f!", "u: f: too many\n", 1)
}

// bytesOf tells an input's bytes, by so many at most, and whether it has failed; a piece that begins with `t` is taken for a line that is too long.
func bytesOf(most int) func(t *task.Task) {
	return func(t *task.Task) {
		for in := range t.Read(t.Operands) {
			t.Tell([]byte(in.Text + ":"))
			for b := in.Bytes(most); len(b) > 0; b = in.Bytes(most) {
				t.Tell(append(b, '|'))
				if b[0] == 't' {
					in.Fail(api.ErrLine)
				}
			}
			if in.Failed() {
				t.Tell([]byte("!"))
			}
		}
	}
}

// Whoever reads bytes reads no further than it asks for, and holds nothing but what it says that it holds.
func TestBytes(t *testing.T) {
	r := comes(t, bytesOf(1), nil, "u - e -", "-:a|\n|\n|b|c|d|e:-:", "", 0)
	if r.Peak != 0 {
		t.Errorf("%d bytes were held", r.Peak)
	}
	comes(t, bytesOf(3), nil, "u -", "-:a\n\n|bcd|", "", 0)
	comes(t, bytesOf(100), nil, "u -", "-:a\n\nbcd|", "", 0)
	comes(t, bytesOf(3), []api.Fault{{}, {Kind: api.FaultIntr}, {Kind: api.FaultShort, N: 1}}, "u -", "-:a|\n\nb|cd|", "", 0)
	// One that fails, whoever says so, has ended.
	comes(t, bytesOf(4), nil, "u f d x e", "f:one\n|two|!d:!e:", "u: f: line too long\nu: d: is a directory\nu: x: no such file\n", 1)
	comes(t, bytesOf(1), nil, "u f", "f:o|n|e|\n|t|!", "u: f: line too long\n", 1)
	comes(t, bytesOf(2), []api.Fault{{}, {}, {}, {Kind: api.FaultIO}}, "u -", "-:a\n|!", "u: -: input/output error\n", 1)
	comes(t, bytesOf(0), nil, "u f", "f:!", "u: f: invalid\n", 1)
}

// A utility has its own status of failures, and may come to any other one.
func TestStatuses(t *testing.T) {
	for _, c := range []struct {
		args   string
		do     func(t *task.Task)
		status int
	}{
		{"u", func(*task.Task) {}, 0},
		{"u -x", func(*task.Task) {}, 5},
		{"u", (*task.Task).Refuse, 5},
		{"u x", chunks, 5},
		{"u", func(t *task.Task) { t.Write(7, "seven", []byte("x")) }, 5},
		{"u", func(t *task.Task) { t.Status = 1 }, 1},
		{"u", func(t *task.Task) { t.Status = 1; t.Fail("", api.ErrIO) }, 5},
		{"u", func(t *task.Task) { t.Fail("", api.ErrIO); t.Status = 1 }, 1},
	} {
		j := api.Job{Args: strings.Fields(c.args), Lim: api.Limits{Buf: 1, Line: 1, Run: 1}}
		r, ok := proc.Run(j, func(p *proc.Proc) *proc.Machine {
			return task.Start(p, map[string]task.Utility{"u": {Do: c.do, Failed: 5}})
		})
		if !ok || r.Status != c.status {
			t.Errorf("%s: %v, %d, not %d", c.args, ok, r.Status, c.status)
		}
	}
}

// One that is closed is held no more, and says nothing; its descriptor is free.
func TestClose(t *testing.T) {
	do := func(t *task.Task) {
		for range 30 {
			in := t.Open("f")
			in.Line()
			in.Close()
			in.Close()
			if _, ok := in.Line(); ok || !in.IsReadable() {
				t.Tell([]byte("?"))
			}
			for range in.Chunks() {
				t.Tell([]byte("?"))
			}
		}
		in := t.Open("-")
		in.Close()
		line, _ := t.Open("-").Line() // the descriptor 0 stays open
		t.Tell(line)
	}
	if r := comes(t, do, nil, "u", "a", "", 0); r.Peak > 5 {
		t.Errorf("%d bytes were held", r.Peak)
	}
}

// asOne tells the lines of inputs one behind the other, each behind a sign that says whether there is one more.
func asOne(t *task.Task) {
	in := &task.Input{}
	left := task.Inputs(t.Operands)
	hasMore := func() bool {
		for !in.HasMore() {
			in.Close()
			if len(left) == 0 {
				return false
			}
			in, left = t.OpenInTurn(left[0]), left[1:]
		}
		return true
	}
	for hasMore() {
		line, ok := in.Line()
		if !ok {
			continue
		}
		sign := "."
		line = append([]byte(nil), line...)
		if hasMore() {
			sign = ","
		}
		t.Tell(append(line, sign...))
	}
}

// An input is looked at ahead of its next line; where the descriptor 0 is one twice, it has no byte the second time, even if it might go on.
func TestHasMore(t *testing.T) {
	comes(t, asOne, nil, "u", "a,,bcd.", "", 0)
	comes(t, asOne, nil, "u -", "a,,bcd.", "", 0)
	comes(t, asOne, nil, "u e", "", "", 0)
	comes(t, asOne, nil, "u f e - e e", "one,two,a,,bcd.", "", 0)
	comes(t, asOne, nil, "u e - - f", "a,,bcd,one,two.", "", 0)
	comes(t, asOne, nil, "u x f d", "one,two.", "u: x: no such file\nu: d: is a directory\n", 1)
	comes(t, asOne, nil, "u l x", "p,", "u: l: line too long\nu: x: no such file\n", 1)
	comes(t, asOne, nil, "u l f", "p,one,two.", "u: l: line too long\n", 1)
	comes(t, asOne, []api.Fault{{Kind: api.FaultIO}}, "u - - f", "one,two.", "u: -: input/output error\n", 1)
	comes(t, asOne, []api.Fault{{}, {Kind: api.FaultIO}}, "u - - f", "a,one,two.", "u: -: input/output error\n", 1)
	comes(t, asOne, []api.Fault{{Kind: api.FaultIntr}, {Kind: api.FaultShort, N: 1}}, "u", "a,,bcd.", "", 0)
	silent := func(t *task.Task) {
		t.Silent = true
		asOne(t)
	}
	comes(t, silent, []api.Fault{{Kind: api.FaultIO}}, "u - x f", "one,two.", "", 1)
	if r := comes(t, asOne, nil, "u"+strings.Repeat(" f", 30), strings.Repeat("one,two,", 29)+"one,two.", "", 0); r.Peak > 5 {
		t.Errorf("%d bytes were held", r.Peak)
	}
	none := func(t *task.Task) {
		for range 2 {
			in := t.OpenInTurn("-")
			line, _ := in.Line()
			t.Tell(append(line, '|'))
			in.Close()
			if in.HasMore() || in.Failed() {
				t.Tell([]byte("?"))
			}
		}
	}
	comes(t, none, nil, "u", "a||", "", 0)
}

// One that is free holds nothing; what is held of it instead is told by whoever keeps it.
func TestFree(t *testing.T) {
	do := func(t *task.Task) {
		in := t.Open("f")
		line, _ := in.Line()
		n := len(line)
		in.Line()
		in.HasMore()
		in.Free()
		in.Free()
		t.Proc.Hold(n)
		in.Close()
		in.Free()
	}
	if r := comes(t, do, nil, "u", "", "", 0); r.Peak > 5 {
		t.Errorf("%d bytes were held", r.Peak)
	}
}

// Outputs that fail are said by their names.
func TestOutputs(t *testing.T) {
	do := func(t *task.Task) {
		t.Tell(nil)
		t.Write(7, "seven", []byte("x"))
		t.Tell([]byte("y"))
	}
	comes(t, do, nil, "u", "y", "u: seven: bad descriptor\n", 1)
	comes(t, do, []api.Fault{{}, {Kind: api.FaultSpace}}, "u", "", "u: seven: bad descriptor\nu: standard output: no space left\n", 1)
}
