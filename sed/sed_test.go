package sed_test

import (
	"reflect"
	"strings"
	"testing"

	"toolchest/api"
	"toolchest/ends"
	"toolchest/flow"
	"toolchest/grep"
	"toolchest/proc"
	"toolchest/sed"
)

func TestExamples(t *testing.T) {
	const in = "a\nb\nc\n"
	tells(t, in, "a\nc\n", "sed", "2d")
	tells(t, in, "c\n", "sed", "-n", "$p")
	tells(t, in, "a\n[b]\nc\n", "sed", "s/b/[&]/")
	tells(t, in, "A\nB\nc\n", "sed", "1,/b/y/ab/AB/")
	tells(t, in, ",a,b,c\n", "sed", "-n", `H;${x;s/\n/,/g;p}`)
	anyhow(t, jobOf(in, "sed", "s/a"), "", badScript, 1)
	// Of the whole's.
	tells(t, "one\ntwo\nthree\n", "two\n", "sed", "-n", "2{p;q;}")
	tells(t, "", "", "sed", "p")
}

func TestOtherNames(t *testing.T) {
	for _, args := range [][]string{nil, {}, {""}, {"se"}, {"seds"}, {"Sed"}, {"SED"}, {"sed "}, {" sed"}, {"/sed"}, {"gsed"}, {"x", "sed"}, {"", "sed"}, {"grep"}, {"cat"}, {"-n"}} {
		j := jobOf("q", args...)
		if sed.Start(newRig(t, j).p) != nil {
			t.Errorf("%q was started", args)
		}
		if r, ok := sed.Run(j); ok || !reflect.DeepEqual(r, api.Result{}) {
			t.Errorf("%q was run: %v", args, r)
		}
	}
}

func TestJobsThatMayNotBe(t *testing.T) {
	for _, limits := range []api.Limits{{Buf: 0, Line: 1, Run: 1}, {Buf: 1<<40 + 1, Line: 1, Run: 1}, {Buf: 1, Line: 2, Run: 1}, {}} {
		j := job("q", "sed p")
		j.Lim = limits
		if r, ok := sed.Run(j); ok || !reflect.DeepEqual(r, api.Result{}) {
			t.Errorf("%v: it was run: %v", limits, r)
		}
	}
}

// The greatest limits that a job may have, and the least.
func TestLimitsThatMayBe(t *testing.T) {
	for _, l := range []api.Limits{lim(1<<40, 1<<40), lim(1, 1), lim(1<<40, 1), lim(1, 1<<40)} {
		for _, c := range []struct{ args, out string }{{"sed =", "1\na\n2\nb\n3\nb\n"}, {"sed -n $p e - e", "b\n"}, {"sed -n H;$!d;x;P;s/\\n/-/gp", "\n-a-b-b\n"}} {
			j := job("a\nb\nb", c.args)
			j.Lim = l
			comes(t, j, c.out, "", 0)
		}
	}
}

// Limits that only a process may have that no job has run.
func TestLimitsThatMayNotBe(t *testing.T) {
	for _, buf := range []int{0, -1, -1 << 63} {
		j := job("q", "sed p")
		j.Lim = api.Limits{Buf: buf}
		newRig(t, j).ends("", "sed: -: invalid\n", 1)
		j.Args = []string{"sed", "-f", "cut"}
		newRig(t, j).ends("", "sed: cut: invalid\n", 1)
	}
	for _, line := range []int{0, -1, -1 << 63} {
		j := job("q", "sed H;p")
		j.Lim = api.Limits{Buf: 1, Line: line}
		newRig(t, j).ends("", long, 1)
	}
	const most = 1<<63 - 1
	j := job("q\nq", "sed -n $!{N;p;}")
	j.Lim = lim(most, most)
	newRig(t, j).ends("q\nq\n", "", 0)
}

func TestCwd(t *testing.T) {
	j := job("q", "sed -f ../cut g ../f /f")
	j.Cwd = "/d"
	comes(t, j, "a 1\nb 2\nab 3\na 1\nb 2\naB 3\n", "", 0)
	j.Args = []string{"sed", "", "g", "f"}
	comes(t, j, "gg\n", "sed: f: no such file\n", 1)
	j.Args = []string{"sed", "-f", "cut", "g"}
	comes(t, j, "", "sed: cut: no such file\n", 1)
}

// With each step a call: nothing is seen of one ahead of it. What is held is what the reader holds, and with letters that keep more the spaces, too.
func TestStepByStep(t *testing.T) {
	for _, c := range []struct {
		args string
		told string // in order; a stroke for each step
		held []int  // ahead of the first step, and behind each
	}{
		{"sed p", "|a\n|a\n||bc\n|bc\n", []int{0, 4, 4, 2, 2, 2, 0}},
		{"sed -n $=", "||2\n", []int{0, 2, 2, 0}},
		{"sed -n 1!G;h;$p", "||bc\na\n", []int{0, 5, 10, 0}},
		{"sed q", "|a\n", []int{0, 4, 0}},
		{"sed d d/g", "|||", []int{0, 0, 2, 2, 0}}, // opened, read, closed at its end
		{"sed z", "", []int{0, 0}},
	} {
		j := job("a\nbc\n", c.args)
		j.Lim = lim(60, 60)
		r := newRig(t, j)
		m := r.start()
		told := ""
		var held []int
		for n, piece := range append([]string{""}, strings.Split(c.told, "|")...) {
			if n > 0 {
				m.Step()
			}
			told += piece
			held = append(held, m.Held())
			if out := string(r.k.Said(r.out)); out != told {
				t.Errorf("%s, step %d: told %q, not %q", c.args, n, out, told)
			}
		}
		if !reflect.DeepEqual(held, c.held) {
			t.Errorf("%s: %v were held, not %v", c.args, held, c.held)
		}
		if !m.Done() || m.Steps() != len(c.held)-1 {
			t.Errorf("%s: %v, %d steps", c.args, m.Done(), m.Steps())
		}
	}
}

func TestKilled(t *testing.T) {
	for _, args := range []string{"sed p", "sed H;p", "sed -f cut f h", "sed p h k", "sed :x;p;bx"} {
		r := newRig(t, job("a\nb\nc\nd\ne\n", args))
		m := r.start()
		m.Step()
		m.Step()
		m.Kill()
		if !m.Done() || m.Status() != 137 || m.Held() != 0 || len(r.p.Table().Fds()) != 0 {
			t.Errorf("%s: %v, %d, %d held, %v", args, m.Done(), m.Status(), m.Held(), r.p.Table().Fds())
		}
	}
}

// box starts sed, grep, cat and the like, head, and by the name `test` what a test does.
type box struct{ main func(p *proc.Proc) int }

func (b box) Start(p *proc.Proc) *proc.Machine {
	p.In(b)
	if p.Args()[0] == "test" {
		return proc.Go(p, b.main)
	}
	for _, start := range []func(*proc.Proc) *proc.Machine{sed.Start, grep.Start, flow.Start} {
		if m := start(p); m != nil {
			return m
		}
	}
	return ends.Start(p)
}

// pipe runs two commands, of which the second one reads what the first one writes: 1000 times the status of the first one, and that of the second one.
func pipe(first, second string) func(p *proc.Proc) int {
	return func(p *proc.Proc) int {
		from, to, _ := p.Pipe()
		a, _ := p.Spawn(strings.Split(first, " "), nil, "", []api.Move{{From: to, To: 1}, {From: -1, To: from}, {From: -1, To: to}})
		b, _ := p.Spawn(strings.Split(second, " "), nil, "", []api.Move{{From: from, To: 0}, {From: -1, To: from}, {From: -1, To: to}})
		p.Close(from)
		p.Close(to)
		one, _ := p.Wait(a)
		two, _ := p.Wait(b)
		return 1000*one + two
	}
}

// Children wait for pipes that are empty or full, and go on, whosever turn it is.
func TestPipelines(t *testing.T) {
	in := strings.Repeat("a 1\nb 2\nab 3\n", 20)
	const big = 1000 // the status of a command that is the first one
	for _, c := range []struct {
		first, second, out, errs string
		status                   int
	}{
		{"cat", "sed /a/d", strings.Repeat("b 2\n", 20), "", 0},
		{"cat", "sed -n $=", "60\n", "", 0},
		{"cat", "sed N;N;s/\\n/,/g", strings.Repeat("a 1,b 2,ab 3\n", 20), "", 0},
		{"cat", "sed -n 1!G;h;$p", strings.Repeat("ab 3\nb 2\na 1\n", 20), "", 0},
		{"cat", "sed 2q", "a 1\nb 2\n", "", 141 * big}, // nobody reads the rest
		{"sed s/a/-/", "sed s/-/a/", in, "", 0},
		{"sed s/a/&&/g", "grep aa", strings.Repeat("aa 1\naab 3\n", 20), "", 0},
		{"sed p", "wc -l", "120\n", "", 0},
		{"sed p", "head -n 1", "a 1\n", "", 141 * big},
		{"sed -n p", "sed -n 59,$p", "b 2\nab 3\n", "", 0},
		{"sed a\\\none", "sed -n /one/=;2q", "2\n", "", 141 * big},
		{"sed -f cut", "sed -f cut", strings.TrimPrefix(strings.TrimSuffix(in, "ab 3\n")+"aB 3\n", "a 1\nb 2\n"), "", 0},
		{"cat cut", "sed -f - f", "b 2\naB 3\n", "", 0},
		{"sed z", "cat", "", badScript, big},
		{"sed -w", "cat", "", "sed: usage\n", big},
		{"cat", "sed :x;bx", "", tooMany, 141*big + 1},
		{"sed $p f x", "cat", "a 1\nb 2\nab 3\nab 3\n", noX, big},
		{"sed d", "sed -n $p", "", "", 0},
	} {
		for _, picks := range [][]int{nil, {0, 0, 0, 0, 0, 0, 0, 0, 0, 0}, {1, 1, 1, 1, 0, 0, 0, 1}, {1, 0, 2, 5, -1, 7, 7, 7}} {
			for buf := 1; buf < 200; buf += 66 {
				j := job(in, "test")
				j.Lim, j.Picks = api.Limits{Buf: buf, Line: 20, Run: 1000}, picks
				j.Faults = faults(strings.Repeat("1i3", 20))
				r, ok := proc.Run(j, box{pipe(c.first, c.second)}.Start)
				if !ok || string(r.Out) != c.out || string(r.Err) != c.errs || r.Status != c.status {
					t.Errorf("%s | %s, Buf %d, Picks %v: %v, told %q, said %q, %d", c.first, c.second, buf, picks, ok, r.Out, r.Err, r.Status)
				}
			}
		}
	}
}

// Inputs of more than a few bytes.
func TestLong(t *testing.T) {
	in := strings.Repeat("word and word\n", 3000)
	for _, buf := range []int{1, 7, 4096, 1 << 40} {
		for _, c := range []struct{ script, out string }{
			{"", in},
			{"s/and/or/", strings.Repeat("word or word\n", 3000)},
			{"s/word/x/g", strings.Repeat("x and x\n", 3000)},
			{"$!d;=", "3000\nword and word\n"},
			{"n;d", strings.Repeat("word and word\n", 1500)},
			{"$!N;P;D", in},
			{"N;s/\\n/ /;y/ /_/", strings.Repeat("word_and_word_word_and_word\n", 1500)},
		} {
			j := jobOf(in, "sed", c.script)
			j.Lim = lim(buf, 13)
			comes(t, j, c.out, "", 0)
		}
	}
	line := strings.Repeat("ab", 1<<15)
	j := jobOf(line+"\nb"+line+"\n", "sed", "-n", `/^\(ab\)*$/p;s/.*/-/p`)
	j.Lim = lim(4096, 1<<17)
	comes(t, j, line+"\n-\n-\n", "", 0)
}

// scribble changes bytes, and the room behind them.
func scribble(b []byte) {
	b = b[:cap(b)]
	for i := range b {
		b[i] = '#'
	}
}

// R4: a job is neither changed nor kept, the room behind its lists neither; what came of it is its owner's.
func TestNothingIsShared(t *testing.T) {
	for _, args := range []string{"sed p", "sed y/abc/xyz/ - f", "sed -f cut f", "sed -f - f", "sed H;$!d;x;s/\\n/&&/g", "sed -n $p x", "sed a\\\none", "sed 1,2c\\\none", "sed z", "sed -x p", "sed N;P;D", "sed s/b/&&/gp;h;G", "sed :x;bx"} {
		fresh := func() api.Job {
			j := faulty("abc\ndef\n", args, "i1.2")
			j.Args = append(j.Args, "spare")[:len(j.Args)]
			j.In = append(j.In, "spare"...)[:len(j.In)]
			j.Env, j.Picks = []string{"A=1"}, []int{3, 1}
			return j
		}
		j := fresh()
		first, want := run(t, j), run(t, fresh())
		isAsItWas := func() bool {
			n, k := len(j.Args), len(j.In)
			return reflect.DeepEqual(j, fresh()) && j.Args[:n+1][n] == "spare" && string(j.In[:k+5][k:]) == "spare"
		}
		if !isAsItWas() {
			t.Errorf("%s: the job has changed: %v", args, j)
		}
		scribble(first.Out)
		scribble(first.Err)
		for _, n := range first.Nodes {
			scribble(n.Data)
		}
		clear(first.Nodes[:cap(first.Nodes)])
		if !isAsItWas() {
			t.Errorf("%s: the job shares with its result: %v", args, j)
		}
		if again := run(t, j); !reflect.DeepEqual(again, want) {
			t.Errorf("%s: %v, not %v", args, again, want)
		}
	}
}

// R4: a process that is started has its arguments for itself.
func TestArgumentsAreNotKept(t *testing.T) {
	j := job("a\nb\n", "sed -n $p")
	r := newRig(t, j)
	j.Args[0], j.Args[1], j.Args[2] = "cat", "-v", "a"
	scribble(j.In)
	r.ends("b\n", "", 0)
}

// R5: what Check answers hangs on the script alone, however often it is asked.
func TestCheckIsAsked(t *testing.T) {
	for range 3 {
		checks(t, api.OK, "p", ":a;ba", "#n")
		checks(t, api.ErrScript, ":a;:a", "z", "{")
		checks(t, api.ErrRegex, "/[/p")
	}
}
