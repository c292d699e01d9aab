package flow_test

import (
	"reflect"
	"strings"
	"testing"

	"toolchest/api"
	"toolchest/flow"
	"toolchest/proc"
)

func TestExamples(t *testing.T) {
	comes(t, job("a b\n", "wc"), "1 2 4\n", "", 0)
	j := job("", "wc -lc x y")
	j.Nodes = []api.Node{file("/x", "q\n")}
	comes(t, j, "1 2 x\n1 2 total\n", "wc: y: no such file\n", 1)
	j = job("hi", "tee f")
	j.Nodes = nil
	r := comes(t, j, "hi", "", 0)
	want := []api.Node{{Path: "/f", Mode: 0o644, Tick: now, Ino: 1, Data: []byte("hi")}}
	if !reflect.DeepEqual(r.Nodes, want) {
		t.Errorf("%v, not %v", r.Nodes, want)
	}
}

func TestOtherNames(t *testing.T) {
	for _, args := range [][]string{nil, {}, {""}, {"ca"}, {"cats"}, {"Cat"}, {"TEE"}, {"wc "}, {" wc"}, {"/cat"}, {"x", "cat"}, {"", "wc"}, {"head"}, {"chunks"}, {"-u"}} {
		j := job("q", "")
		j.Args = args
		if flow.Start(newRig(t, j).p) != nil {
			t.Errorf("%q was started", args)
		}
		if r, ok := flow.Run(j); ok || !reflect.DeepEqual(r, api.Result{}) {
			t.Errorf("%q was run: %v", args, r)
		}
	}
}

func TestJobsThatMayNotBe(t *testing.T) {
	for name, change := range map[string]func(j *api.Job){
		"no buffer":      func(j *api.Job) { j.Lim.Buf = 0 },
		"a great buffer": func(j *api.Job) { j.Lim.Buf = 1<<40 + 1 },
		"no line":        func(j *api.Job) { j.Lim.Line = 0 },
		"a short run":    func(j *api.Job) { j.Lim.Line = 2 },
		"no directory":   func(j *api.Job) { j.Cwd = "/f" },
		"no tick":        func(j *api.Job) { j.Now = -1 },
		"a bad tree":     func(j *api.Job) { j.Nodes = append(j.Nodes, j.Nodes[0]) },
	} {
		for _, args := range []string{"cat", "tee h", "wc -l"} {
			j := job("q", args)
			change(&j)
			if r, ok := flow.Run(j); ok || !reflect.DeepEqual(r, api.Result{}) {
				t.Errorf("%s, %s: it was run: %v", name, args, r)
			}
		}
	}
}

// F4: each byte that is no letter of the synopsis, alone and behind a letter.
func TestOptionsThatAreNone(t *testing.T) {
	for name, letters := range map[string]string{"cat": "u", "tee": "a", "wc": "clw"} {
		for x := range 256 {
			option := string([]byte{'-', byte(x)})
			j := job("q", name)
			j.Args = append(j.Args, option)
			status := run(t, j).Status
			isLetter := option == "--" || strings.Contains(letters, option[1:])
			if (status == 0) != isLetter {
				t.Errorf("%s %q: %d", name, option, status)
			}
			if !isLetter {
				j.Args[1] = "-" + letters + option[1:]
				j.Args = append(j.Args, "h")
				treeStays(t, j, comes(t, j, "", name+": usage\n", 1))
			}
		}
	}
}

// Limits that only a process may have that no job has run.
func TestLimitsThatMayNotBe(t *testing.T) {
	for _, buf := range []int{0, -1, -1 << 63} {
		for _, name := range []string{"cat", "tee", "wc"} {
			j := job("q", name)
			j.Lim = api.Limits{Buf: buf}
			newRig(t, j).ends("", name+": -: invalid\n", 1)
		}
	}
}

// With each step a call: nothing is seen of one ahead of it.
func TestStepByStep(t *testing.T) {
	r := newRig(t, job("abcdef", "tee -a h"))
	m := flow.Start(r.p)
	for n, want := range []struct {
		out, file string
		held      int
	}{
		{"", "none", 0},
		{"", "", 0},         // Open
		{"", "", 4},         // a Read
		{"abcd", "", 4},     // a Write
		{"abcd", "abcd", 0}, // a Write: then nothing is held any more
		{"abcd", "abcd", 2}, // a Read
		{"abcdef", "abcd", 2},
		{"abcdef", "abcdef", 0},
		{"abcdef", "abcdef", 0}, // a Read, at the end
	} {
		if n > 0 && m.Step() != (n == 8) {
			t.Errorf("step %d: it has ended: %v", n, m.Done())
		}
		says := "none"
		if x, ok := nodeOf(r.k.Tree().Dump(), "/h"); ok {
			says = string(x.Data)
		}
		if out := string(r.k.Said(r.out)); out != want.out || says != want.file || m.Held() != want.held {
			t.Errorf("step %d: told %q, h %q, %d held, not %v", n, out, says, m.Held(), want)
		}
	}
	if m.Steps() != 8 || m.Status() != 0 || m.Peak() != 4 || len(r.p.Table().Fds()) != 0 {
		t.Errorf("%d steps, %d, %d held at most, %v", m.Steps(), m.Status(), m.Peak(), r.p.Table().Fds())
	}
}

func TestKilled(t *testing.T) {
	for _, args := range []string{"cat f", "tee h", "wc f"} {
		r := newRig(t, job("abcdef", args))
		m := flow.Start(r.p)
		m.Step()
		m.Step()
		m.Kill()
		if !m.Done() || m.Status() != 137 || m.Held() != 0 || len(r.p.Table().Fds()) != 0 {
			t.Errorf("%s: %v, %d, %d held, %v", args, m.Done(), m.Status(), m.Held(), r.p.Table().Fds())
		}
	}
}

// box starts these utilities, and what a test makes of the name `test`.
type box struct{ main func(p *proc.Proc) int }

func (b box) Start(p *proc.Proc) *proc.Machine {
	p.In(b)
	if p.Args()[0] == "test" {
		return proc.Go(p, b.main)
	}
	return flow.Start(p)
}

// pipeline runs commands, each of which reads what the one ahead of it writes: the status of the last one.
func pipeline(commands ...string) func(p *proc.Proc) int {
	return func(p *proc.Proc) int {
		in, children := 0, []int(nil)
		for i, command := range commands {
			out, next := 1, 0
			if i < len(commands)-1 {
				next, out, _ = p.Pipe()
			}
			moves := []api.Move{{From: in, To: 0}, {From: out, To: 1}}
			for fd := 3; fd < api.MaxFds; fd++ {
				moves = append(moves, api.Move{From: -1, To: fd})
			}
			child, _ := p.Spawn(strings.Fields(command), nil, "", moves)
			children = append(children, child)
			for _, fd := range []int{in, out} {
				if fd > 2 {
					p.Close(fd)
				}
			}
			in = next
		}
		status := 0
		for _, child := range children {
			status, _ = p.Wait(child)
		}
		return status
	}
}

// Children wait for pipes that are empty or full, and go on, whosever turn it is.
func TestPipelines(t *testing.T) {
	long := strings.Repeat("ab cd\n", 40)
	for _, picks := range [][]int{nil, {0, 0, 0, 0, 0, 0, 0, 0, 0, 0}, {2, 2, 2, 1, 1, 1, 0, 0, 0}, {1, 0, 2, 5, -1, 7, 7, 7}} {
		for buf := 1; buf < 200; buf += 66 {
			b := box{pipeline("cat -", "tee h", "wc -l - f")}
			j := job(long, "test")
			j.Lim, j.Picks = lim(buf), picks
			j.Faults = faults(strings.Repeat("1i3", 20))
			r, ok := proc.Run(j, b.Start)
			if !ok || string(r.Out) != "40 -\n1 f\n41 total\n" || len(r.Err) > 0 || r.Status != 0 || dataOf(r.Nodes, "/h") != long {
				t.Errorf("Buf %d, Picks %v: %v, told %q, said %q, %d", buf, picks, ok, r.Out, r.Err, r.Status)
			}
		}
	}
}

// A child to whose output nobody listens goes on no more.
func TestPipelineThatBreaks(t *testing.T) {
	long := strings.Repeat("ab cd\n", 40)
	for _, name := range []string{"cat", "tee"} {
		b := box{func(p *proc.Proc) int {
			from, to, _ := p.Pipe()
			child, _ := p.Spawn([]string{name}, nil, "", []api.Move{{From: to, To: 1}, {From: -1, To: from}, {From: -1, To: to}})
			p.Close(from)
			p.Close(to)
			status, _ := p.Wait(child)
			return status
		}}
		r, ok := proc.Run(job(long, "test"), b.Start)
		if !ok || r.Status != 141 || len(r.Out) > 0 || len(r.Err) > 0 {
			t.Errorf("%s: %v, told %q, said %q, %d", name, ok, r.Out, r.Err, r.Status)
		}
	}
}

// scribble changes bytes, and the room behind them.
func scribble(b []byte) {
	b = b[:cap(b)]
	for i := range b {
		b[i] = '#'
	}
}

// R4: a job is neither changed nor kept, the room behind its lists neither; what came of it is its owner's.
func TestNothingIsShared(t *testing.T) {
	for _, args := range []string{"cat - f x", "tee -a f h d", "wc -wl - f x", "wc -x"} {
		fresh := func() api.Job {
			j := faulty("abc def\n", args, "i1.2")
			j.Args = append(append([]string(nil), j.Args...), "spare")[:len(j.Args)]
			j.In = append(append([]byte(nil), j.In...), "spare"...)[:len(j.In)]
			j.Env, j.Picks = []string{"A=1"}, []int{3, 1}
			return j
		}
		j := fresh()
		first := run(t, j)
		want := run(t, fresh())
		if !reflect.DeepEqual(j, fresh()) || j.Args[:len(j.Args)+1][len(j.Args)] != "spare" || string(j.In[:len(j.In)+5][len(j.In):]) != "spare" {
			t.Errorf("%s: the job has changed: %v", args, j)
		}
		scribble(first.Out)
		scribble(first.Err)
		for _, n := range first.Nodes {
			scribble(n.Data)
		}
		clear(first.Nodes[:cap(first.Nodes)])
		if !reflect.DeepEqual(j, fresh()) {
			t.Errorf("%s: the job shares with its result: %v", args, j)
		}
		if again := run(t, j); !reflect.DeepEqual(again, want) {
			t.Errorf("%s: %v, not %v", args, again, want)
		}
	}
}

// R4: a process that is started has its arguments for itself.
func TestArgumentsAreNotKept(t *testing.T) {
	j := job("q", "cat f")
	r := newRig(t, j)
	j.Args[0], j.Args[1] = "wc", "e"
	scribble(j.In)
	r.ends("one\ntwo", "", 0)
}
