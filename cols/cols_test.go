package cols_test

import (
	"reflect"
	"strings"
	"testing"

	"toolchest/api"
	"toolchest/cols"
	"toolchest/flow"
	"toolchest/proc"
)

func TestExamples(t *testing.T) {
	comes(t, job("abc\n", "cut -c 2-,1"), "abc\n", "", 0)
	comes(t, job("a:b:c\nx\n", "cut -d : -f 2"), "b\nx\n", "", 0)
	comes(t, job("a\nb\nc\n", "paste -d ,- - -"), "a,b\nc,\n", "", 0)
	comes(t, job("a\nb\n", "paste -s"), "a\tb\n", "", 0)
	comes(t, job("abc\n", "cut -c 2-"), "bc\n", "", 0)
}

func TestOtherNames(t *testing.T) {
	for _, args := range [][]string{nil, {}, {""}, {"cu"}, {"cuts"}, {"Cut"}, {"PASTE"}, {"paste "}, {" cut"}, {"/cut"}, {"x", "cut"}, {"", "paste"}, {"cat"}, {"head"}, {"cols"}, {"-s"}} {
		j := jobOf("q", args...)
		if cols.Start(newRig(t, j).p) != nil {
			t.Errorf("%q was started", args)
		}
		if r, ok := cols.Run(j); ok || !reflect.DeepEqual(r, api.Result{}) {
			t.Errorf("%q was run: %v", args, r)
		}
	}
}

func TestJobsThatMayNotBe(t *testing.T) {
	for _, args := range []string{"cut -b 1", "paste", "paste -s"} {
		for _, limits := range []api.Limits{{Buf: 0, Line: 1, Run: 1}, {Buf: 1<<40 + 1, Line: 1, Run: 1}, {Buf: 1, Line: 2, Run: 1}, {}} {
			j := job("q", args)
			j.Lim = limits
			if r, ok := cols.Run(j); ok || !reflect.DeepEqual(r, api.Result{}) {
				t.Errorf("%s, %v: it was run: %v", args, limits, r)
			}
		}
	}
}

// Limits that only a process may have that no job has run.
func TestLimitsThatMayNotBe(t *testing.T) {
	for _, buf := range []int{0, -1, -1 << 63} {
		for _, args := range []string{"cut -b 1", "paste", "paste - -", "paste -s"} {
			j := job("q", args)
			j.Lim = api.Limits{Buf: buf}
			newRig(t, j).ends("", j.Args[0]+": -: invalid\n", 1)
		}
	}
}

func TestCwd(t *testing.T) {
	j := job("q", "paste g ../f f")
	j.Cwd = "/d"
	comes(t, j, "gg\tone\t\n\ttwo\t\n", "paste: f: no such file\n", 1)
	j.Args = strings.Fields("cut -b 1 ../f g")
	newRig(t, j).ends("o\nt\ng\n", "", 0)
}

// With each step a call: nothing is seen of one ahead of it.
func TestStepByStep(t *testing.T) {
	for _, c := range []struct {
		args string
		told []string // ahead of the first step, and behind each
		held []int
	}{
		{"cut -b 1", []string{"", "", "a\n", "a\n", "a\nc\n", "a\nc\n", "a\nc\ne\n"}, []int{0, 3, 1, 3, 1, 1, 0}},
		{"paste - -", []string{"", "", "ab\t", "ab\t", "ab\tcd\n", "ab\tcd\n", "ab\tcd\ne\t", "ab\tcd\ne\t\n"}, []int{0, 3, 1, 3, 1, 1, 0, 0}},
		{"paste f -", []string{"", "", "", "one\t", "one\t", "one\tab\n", "one\tab\n", "one\tab\n", "one\tab\ntwo\t", "one\tab\ntwo\t"}, []int{0, 0, 3, 3, 6, 3, 6, 6, 4, 6}},
		{"paste -s", []string{"", "", "ab", "ab", "ab\tcd", "ab\tcd", "ab\tcd\te", "ab\tcd\te\n"}, []int{0, 3, 1, 3, 1, 1, 0, 0}},
	} {
		r := newRig(t, job("ab\ncd\ne", c.args))
		m := cols.Start(r.p)
		for n := range c.told {
			if n > 0 {
				m.Step()
			}
			if out := string(r.k.Said(r.out)); out != c.told[n] || m.Held() != c.held[n] {
				t.Errorf("%s, step %d: told %q, %d held, not %q, %d", c.args, n, out, m.Held(), c.told[n], c.held[n])
			}
		}
	}
}

func TestKilled(t *testing.T) {
	for _, args := range []string{"cut -b 1 f", "paste f - h", "paste -s"} {
		r := newRig(t, job("a\nb\nc\nd\n", args))
		m := cols.Start(r.p)
		m.Step()
		m.Step()
		m.Kill()
		if !m.Done() || m.Status() != 137 || m.Held() != 0 || len(r.p.Table().Fds()) != 0 {
			t.Errorf("%s: %v, %d, %d held, %v", args, m.Done(), m.Status(), m.Held(), r.p.Table().Fds())
		}
	}
}

// box starts these utilities, cat and the like, and by the name `test` what a test does.
type box struct{ main func(p *proc.Proc) int }

func (b box) Start(p *proc.Proc) *proc.Machine {
	p.In(b)
	if p.Args()[0] == "test" {
		return proc.Go(p, b.main)
	}
	if m := cols.Start(p); m != nil {
		return m
	}
	return flow.Start(p)
}

// pipe runs two commands, of which the second one reads what the first one writes: 1000 times the status of the first one, and that of the second one.
func pipe(first, second string) func(p *proc.Proc) int {
	return func(p *proc.Proc) int {
		from, to, _ := p.Pipe()
		a, _ := p.Spawn(strings.Fields(first), nil, "", []api.Move{{From: to, To: 1}, {From: -1, To: from}, {From: -1, To: to}})
		b, _ := p.Spawn(strings.Fields(second), nil, "", []api.Move{{From: from, To: 0}, {From: -1, To: from}, {From: -1, To: to}})
		p.Close(from)
		p.Close(to)
		one, _ := p.Wait(a)
		two, _ := p.Wait(b)
		return 1000*one + two
	}
}

// Children wait for pipes that are empty or full, and go on, whosever turn it is.
func TestPipelines(t *testing.T) {
	long := strings.Repeat("ab:cd\n", 100) + "e"
	for _, c := range []struct {
		first, second, out string
		status             int
	}{
		{"cat", "cut -b 2", strings.Repeat("b\n", 100) + "\n", 0},
		{"cat", "cut -sf 2 -d :", strings.Repeat("cd\n", 100), 0},
		{"cat", "paste - -", strings.Repeat("ab:cd\tab:cd\n", 50) + "e\t\n", 0},
		{"cat", "paste -s", strings.Repeat("ab:cd\t", 100) + "e\n", 0},
		{"cut -b 1", "paste -sd \\0", strings.Repeat("a", 100) + "e\n", 0},
		{"paste -d : - -", "cut -d : -f 2-3", strings.Repeat("cd:ab\n", 50) + "\n", 0},
		{"paste -s", "wc -l", "1\n", 0},
		{"cut -b 2", "cut -b 0", "", 141001},
		{"cut", "wc -l", "0\n", 1000},
	} {
		errs := ""
		for _, command := range []string{c.first, c.second} {
			if command == "cut" || command == "cut -b 0" {
				errs = "cut: usage\n"
			}
		}
		for _, picks := range [][]int{nil, {0, 0, 0, 0, 0, 0, 0, 0, 0, 0}, {1, 1, 1, 1, 0, 0, 0, 1}, {1, 0, 2, 5, -1, 7, 7, 7}} {
			for buf := 1; buf < 200; buf += 66 {
				j := job(long, "test")
				j.Lim, j.Picks = lim(buf, 20), picks
				j.Faults = faults(strings.Repeat("1i3", 20))
				r, ok := proc.Run(j, box{pipe(c.first, c.second)}.Start)
				if !ok || string(r.Out) != c.out || string(r.Err) != errs || r.Status != c.status {
					t.Errorf("%s | %s, Buf %d, Picks %v: %v, told %q, said %q, %d", c.first, c.second, buf, picks, ok, r.Out, r.Err, r.Status)
				}
			}
		}
	}
}

// Inputs of more than a few bytes, and lists and operands of more than a few parts.
func TestLong(t *testing.T) {
	in := strings.Repeat("word:and:word\n", 5000)
	for _, buf := range []int{1, 7, 4096, 1 << 40} {
		for _, c := range []struct{ args, out string }{
			{"cut -c 6-8", strings.Repeat("and\n", 5000)},
			{"cut -f 1,3 -d :", strings.Repeat("word:word\n", 5000)},
			{"cut -b " + strings.Repeat("2,3-4,", 5000) + "1", strings.Repeat("word\n", 5000)},
			{"paste -s -d ,", strings.Repeat("word:and:word,", 4999) + "word:and:word\n"},
			{"paste -d ," + strings.Repeat(" -", 1000), strings.Repeat(strings.Repeat("word:and:word,", 999)+"word:and:word\n", 5)},
		} {
			j := job(in, c.args)
			j.Lim = lim(buf, 13)
			comes(t, j, c.out, "", 0)
		}
	}
	j := job(strings.Repeat("ab:", 100000), "cut -d : -f "+strings.Repeat("9-20,40-60,5,", 2000)+"7,99999-100000")
	j.Lim = lim(1<<20, 1<<20)
	comes(t, j, strings.Repeat("ab:", 1+1+12+21+2-1)+"ab\n", "", 0)
}

// scribble changes bytes, and the room behind them.
func scribble(b []byte) {
	b = b[:cap(b)]
	for i := range b {
		b[i] = '#'
	}
}

// R4: a job is neither changed nor kept, the room behind its lists neither; what came of it is its owner's.
func TestNothingIsShared(t *testing.T) {
	for _, args := range []string{"cut -b 1 - f x", "cut -c 2-", "cut -d c -f 1", "cut -sf 1", "cut -x", "paste", "paste - -", "paste -d , f - x", "paste -s", "paste -s f -"} {
		fresh := func() api.Job {
			j := faulty("abc\ndef\n", args, "i1.2")
			j.Args = append(j.Args, "spare")[:len(j.Args)]
			j.In = append(j.In, "spare"...)[:len(j.In)]
			j.Env, j.Picks = []string{"A=1"}, []int{3, 1}
			return j
		}
		j := fresh()
		first, want := run(t, j), run(t, fresh())
		isAsItWas := func() bool {
			n, k := len(j.Args), len(j.In)
			return reflect.DeepEqual(j, fresh()) && j.Args[:n+1][n] == "spare" && string(j.In[:k+5][k:]) == "spare"
		}
		if !isAsItWas() {
			t.Errorf("%s: the job has changed: %v", args, j)
		}
		scribble(first.Out)
		scribble(first.Err)
		for _, n := range first.Nodes {
			scribble(n.Data)
		}
		clear(first.Nodes[:cap(first.Nodes)])
		if !isAsItWas() {
			t.Errorf("%s: the job shares with its result: %v", args, j)
		}
		if again := run(t, j); !reflect.DeepEqual(again, want) {
			t.Errorf("%s: %v, not %v", args, again, want)
		}
	}
}

// R4: a process that is started has its arguments for itself.
func TestArgumentsAreNotKept(t *testing.T) {
	j := job("q", "paste f")
	r := newRig(t, j)
	j.Args[0], j.Args[1] = "cut", "e"
	scribble(j.In)
	r.ends("one\ntwo\n", "", 0)
}
