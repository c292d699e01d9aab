package trans_test

import (
	"reflect"
	"strings"
	"testing"

	"toolchest/api"
	"toolchest/flow"
	"toolchest/proc"
	"toolchest/trans"
)

func TestExamples(t *testing.T) {
	sets(t, `a-c[x*2]\n`, "abcxx\n", -1)
	comes(t, job("abcd", "a-c", "A-C"), "ABCd", "", 0)
	comes(t, job("a1b2", "-d", "[:digit:]"), "ab", "", 0)
	comes(t, job("aabaa", "-s", "a"), "aba", "", 0)
	comes(t, job("ab  c1", "-cs", "a-z", `[\n*]`), "ab\nc\n", "", 0)
	comes(t, job("one two three\n", " ", `\n`), "one\ntwo\nthree\n", "", 0)
}

func TestOtherNames(t *testing.T) {
	for _, args := range [][]string{nil, {}, {""}, {"t"}, {"trs"}, {"Tr"}, {"TR"}, {"tr "}, {" tr"}, {"/tr"}, {"x", "tr"}, {"", "tr", "a", "b"}, {"cat"}, {"cut"}, {"trans"}, {"-d"}, {"tr\x00"}} {
		j := job("q")
		j.Args = args
		if trans.Start(newRig(t, j).p) != nil {
			t.Errorf("%q was started", args)
		}
		if r, ok := trans.Run(j); ok || !reflect.DeepEqual(r, api.Result{}) {
			t.Errorf("%q was run: %v", args, r)
		}
	}
}

func TestJobsThatMayNotBe(t *testing.T) {
	for _, args := range [][]string{{"a", "b"}, {"-d", "a"}, {}} {
		for _, limits := range []api.Limits{{Buf: 0, Line: 1, Run: 1}, {Buf: 1<<40 + 1, Line: 1, Run: 1}, {Buf: 1, Line: 2, Run: 1}, {}} {
			j := job("q", args...)
			j.Lim = limits
			if r, ok := trans.Run(j); ok || !reflect.DeepEqual(r, api.Result{}) {
				t.Errorf("%q, %v: it was run: %v", args, limits, r)
			}
		}
	}
}

// Limits that only a process may have that no job has run.
func TestLimitsThatMayNotBe(t *testing.T) {
	for _, buf := range []int{0, -1, -1 << 63} {
		for _, args := range [][]string{{"a", "b"}, {"-d", "a"}, {"-s", "a"}} {
			j := job("q", args...)
			j.Lim = api.Limits{Buf: buf}
			newRig(t, j).ends("", "tr: -: invalid\n", 1)
		}
	}
}

// With each step a call: nothing is seen of one ahead of it.
func TestStepByStep(t *testing.T) {
	for _, c := range []struct {
		args []string
		told []string // ahead of the first step, and behind each
		held []int
	}{
		{[]string{"a", "x"}, []string{"", "", "xxbx", "xxbx", "xxbxxc", "xxbxxc"}, []int{0, 4, 0, 2, 0, 0}},
		{[]string{"-s", "a"}, []string{"", "", "aba", "aba", "abac", "abac"}, []int{0, 4, 0, 2, 0, 0}},
		{[]string{"-d", "ab"}, []string{"", "", "", "c", "c"}, []int{0, 0, 2, 0, 0}}, // of the first chunk nothing is told
		{[]string{"a"}, []string{"", ""}, []int{0, 0}},
	} {
		r := newRig(t, job("aabaac", c.args...))
		m := trans.Start(r.p)
		for n := range c.told {
			if n > 0 {
				m.Step()
			}
			if out := string(r.k.Said(r.out)); out != c.told[n] || m.Held() != c.held[n] {
				t.Errorf("%q, step %d: told %q, %d held, not %q, %d", c.args, n, out, m.Held(), c.told[n], c.held[n])
			}
		}
	}
}

func TestKilled(t *testing.T) {
	r := newRig(t, job("aabaac", "-s", "a"))
	m := trans.Start(r.p)
	m.Step()
	m.Kill()
	if !m.Done() || m.Status() != 137 || m.Held() != 0 || len(r.p.Table().Fds()) != 0 {
		t.Errorf("%v, %d, %d held, %v", m.Done(), m.Status(), m.Held(), r.p.Table().Fds())
	}
}

// box starts tr, cat and the like, and by the name `test` what a test does.
type box struct{ main func(p *proc.Proc) int }

func (b box) Start(p *proc.Proc) *proc.Machine {
	p.In(b)
	if p.Args()[0] == "test" {
		return proc.Go(p, b.main)
	}
	if m := trans.Start(p); m != nil {
		return m
	}
	return flow.Start(p)
}

// pipe runs two commands, of which the second one reads what the first one writes: 1000 times the status of the first one, and that of the second one.
func pipe(first, second string) func(p *proc.Proc) int {
	return func(p *proc.Proc) int {
		from, to, _ := p.Pipe()
		a, _ := p.Spawn(strings.Fields(first), nil, "", []api.Move{{From: to, To: 1}, {From: -1, To: from}, {From: -1, To: to}})
		b, _ := p.Spawn(strings.Fields(second), nil, "", []api.Move{{From: from, To: 0}, {From: -1, To: from}, {From: -1, To: to}})
		p.Close(from)
		p.Close(to)
		one, _ := p.Wait(a)
		two, _ := p.Wait(b)
		return 1000*one + two
	}
}

// Children wait for pipes that are empty or full, and go on, whosever turn it is.
func TestPipelines(t *testing.T) {
	long := strings.Repeat("aab  c\n", 60) + "e"
	for _, c := range []struct {
		first, second, out, errs string
		status                   int
	}{
		{"cat", "tr a-c A-C", strings.ToUpper(strings.Repeat("aab  c\n", 60)) + "e", "", 0},
		{"cat", "tr -d ab", strings.Repeat("  c\n", 60) + "e", "", 0},
		{"cat", "tr -cs a-z [.*]", strings.Repeat("aab.c.", 60) + "e", "", 0},
		{"tr -s a", "cat", strings.Repeat("ab  c\n", 60) + "e", "", 0},
		{"tr ab ba", "tr ab ba", long, "", 0},
		{"tr -s a", "tr -ds b a-c", strings.Repeat("a  c\n", 60) + "e", "", 0},
		{"tr -d a-z", "wc -c", "180\n", "", 0},
		{"tr a b", "tr a", "", "tr: usage\n", 141001},
		{"tr", "wc -c", "0\n", "tr: usage\n", 1000},
	} {
		for _, picks := range [][]int{nil, {0, 0, 0, 0, 0, 0, 0, 0, 0, 0}, {1, 1, 1, 1, 0, 0, 0, 1}, {1, 0, 2, 5, -1, 7, 7, 7}} {
			for buf := 1; buf < 200; buf += 66 {
				j := job(long)
				j.Args, j.Lim, j.Picks = []string{"test"}, lim(buf), picks
				j.Faults = faults(strings.Repeat("1i3", 20))
				r, ok := proc.Run(j, box{pipe(c.first, c.second)}.Start)
				if !ok || string(r.Out) != c.out || string(r.Err) != c.errs || r.Status != c.status {
					t.Errorf("%s | %s, Buf %d, Picks %v: %v, told %q, said %q, %d", c.first, c.second, buf, picks, ok, r.Out, r.Err, r.Status)
				}
			}
		}
	}
}

// Inputs and strings of more than a few bytes.
func TestLong(t *testing.T) {
	in := strings.Repeat("word and  word\n", 5000)
	for _, buf := range []int{1, 7, 4096, 1 << 40} {
		for _, c := range []struct {
			args []string
			out  string
		}{
			{[]string{"a-z", "A-Z"}, strings.ToUpper(in)},
			{[]string{"-d", " \n"}, strings.Repeat("wordandword", 5000)},
			{[]string{"-s", " "}, strings.Repeat("word and word\n", 5000)},
			{[]string{strings.Repeat("x", 100000) + "w", "[a*]b"}, strings.ReplaceAll(in, "w", "b")},
			{[]string{"[x*65536]w", "[y*99999]z"}, strings.ReplaceAll(in, "w", "z")},
		} {
			j := job(in, c.args...)
			j.Lim = lim(buf)
			comes(t, j, c.out, "", 0)
		}
	}
}

// scribble changes bytes, and the room behind them.
func scribble(b []byte) {
	b = b[:cap(b)]
	for i := range b {
		b[i] = '#'
	}
}

// R4: a job is neither changed nor kept, the room behind its lists neither; what came of it is its owner's.
func TestNothingIsShared(t *testing.T) {
	for _, args := range [][]string{{"a-c", "x"}, {"a", "b[c*]"}, {"-d", "a"}, {"-s", "ab"}, {"-cs", "a", "x"}, {"-ds", "a", "b"}, {"", ""}, {"a"}, {"-x"}} {
		fresh := func() api.Job {
			j := faulty("aabbcc", "i1.2", args...)
			j.Args = append(j.Args, "spare")[:len(j.Args)]
			j.In = append(j.In, "spare"...)[:len(j.In)]
			j.Env, j.Picks = []string{"A=1"}, []int{3, 1}
			return j
		}
		j := fresh()
		first, want := run(t, j), run(t, fresh())
		isAsItWas := func() bool {
			n, k := len(j.Args), len(j.In)
			return reflect.DeepEqual(j, fresh()) && j.Args[:n+1][n] == "spare" && string(j.In[:k+5][k:]) == "spare"
		}
		if !isAsItWas() {
			t.Errorf("%q: the job has changed: %v", args, j)
		}
		scribble(first.Out)
		scribble(first.Err)
		for _, n := range first.Nodes {
			scribble(n.Data)
		}
		clear(first.Nodes[:cap(first.Nodes)])
		if !isAsItWas() {
			t.Errorf("%q: the job shares with its result: %v", args, j)
		}
		if again := run(t, j); !reflect.DeepEqual(again, want) {
			t.Errorf("%q: %v, not %v", args, again, want)
		}
	}
}

// R4: a process that is started has its arguments and its input for itself.
func TestArgumentsAreNotKept(t *testing.T) {
	j := job("aab", "-s", "a", "x")
	r := newRig(t, j)
	copy(j.Args, []string{"cat", "-d", "b", "y"})
	scribble(j.In)
	r.ends("xb", "", 0)
}
