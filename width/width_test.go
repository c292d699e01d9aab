package width_test

import (
	"reflect"
	"strings"
	"testing"

	"toolchest/api"
	"toolchest/flow"
	"toolchest/proc"
	"toolchest/width"
)

func TestExamples(t *testing.T) {
	comes(t, job("abcde", "fold -w 3"), "abc\nde", "", 0)
	comes(t, job("a bcd", "fold -s -w 4"), "a \nbcd", "", 0)
	comes(t, job("a\tb", "expand -t 4"), "a   b", "", 0)
	comes(t, job("a   b", "unexpand -a -t 4"), "a\tb", "", 0)
	comes(t, job("x\n\ny\n", "nl -w 2 -s :"), " 1:x\n   \n 2:y\n", "", 0)
}

func TestOtherNames(t *testing.T) {
	for _, args := range [][]string{nil, {}, {""}, {"fol"}, {"folds"}, {"Fold"}, {"FOLD"}, {"fold "}, {" nl"}, {"nl\x00"}, {"n"}, {"nll"}, {"/nl"}, {"expand-"}, {"unexpan"}, {"unexpandd"}, {"un", "expand"}, {"x", "fold"}, {"", "nl"}, {"cat"}, {"tr"}, {"width"}, {"-w"}} {
		j := jobOf("q", args...)
		if width.Start(newRig(t, j).p) != nil {
			t.Errorf("%q was started", args)
		}
		if r, ok := width.Run(j); ok || !reflect.DeepEqual(r, api.Result{}) {
			t.Errorf("%q was run: %v", args, r)
		}
	}
}

func names() []string { return []string{"fold", "expand", "unexpand", "nl"} }

func TestJobsThatMayNotBe(t *testing.T) {
	for _, name := range names() {
		for _, limits := range []api.Limits{{Buf: 0, Line: 1, Run: 1}, {Buf: 1<<40 + 1, Line: 1, Run: 1}, {Buf: 1, Line: 2, Run: 1}, {}} {
			j := job("q", name)
			j.Lim = limits
			if r, ok := width.Run(j); ok || !reflect.DeepEqual(r, api.Result{}) {
				t.Errorf("%s, %v: it was run: %v", name, limits, r)
			}
		}
	}
}

// Limits that only a process may have that no job has run.
func TestLimitsThatMayNotBe(t *testing.T) {
	for _, buf := range []int{0, -1, -1 << 63} {
		for _, name := range names() {
			j := job("q", name)
			j.Lim = api.Limits{Buf: buf}
			newRig(t, j).ends("", name+": -: invalid\n", 1)
		}
	}
}

func TestCwd(t *testing.T) {
	j := job("q", "fold -w 2 g ../f f")
	j.Cwd = "/d"
	comes(t, j, "gg\non\ne\ntw\no", "fold: f: no such file\n", 1)
	j.Args = strings.Fields("nl ../f")
	newRig(t, j).ends("     1\tone\n     2\ttwo", "", 0)
}

// told is what each of the utilities tells of a line.
func told(name, line string) string {
	switch {
	case name == "fold":
		return foldOf(line, 2, false, false)
	case name == "nl" && line == "":
		return "  "
	case name == "nl":
		return "#:" + line
	}
	return line
}

// toldWhole is told, with its line feed, if it has one.
func toldWhole(name, line string) string {
	without, hasFeed := strings.CutSuffix(line, "\n")
	if hasFeed {
		return told(name, without) + "\n"
	}
	return told(name, without)
}

// command is a line of arguments of a utility by which a test tells inputs, and tells each from the others.
func command(name, operands string) string {
	options := map[string]string{"fold": "-w 2", "nl": "-w 1 -s :", "expand": "-t 4", "unexpand": "-a"}
	return name + " " + options[name] + " " + operands
}

// numbered puts numbers into the places that told leaves for them.
func numbered(s string) string {
	for n := 1; strings.Contains(s, "#"); n++ {
		s = strings.Replace(s, "#", digits(n), 1)
	}
	return s
}

func TestInputs(t *testing.T) {
	for _, c := range []struct {
		operands string
		lines    []string // each with its line feed, if it has one
		errs     string
	}{
		{"", []string{"ab\n", "cde\n"}, ""},
		{"-", []string{"ab\n", "cde\n"}, ""},
		{"f", []string{"one\n", "two"}, ""},
		{"e", nil, ""},
		{"f - d/g", []string{"one\n", "two", "ab\n", "cde\n", "gg\n"}, ""}, // no line feed between two inputs
		{"f f e f", []string{"one\n", "two", "one\n", "two", "one\n", "two"}, ""},
		{"- -", []string{"ab\n", "cde\n"}, ""},
		{"x", nil, "x: no such file\n"},
		{"x -", []string{"ab\n", "cde\n"}, "x: no such file\n"},
		{"- x f", []string{"ab\n", "cde\n", "one\n", "two"}, "x: no such file\n"},
		{"d", nil, "d: is a directory\n"},
		{"d f d", []string{"one\n", "two"}, "d: is a directory\nd: is a directory\n"},
		{"f/x f", []string{"one\n", "two"}, "f/x: not a directory\n"},
		{"./-", nil, "./-: no such file\n"},
		{"k", []string{"ab\n"}, "k: line too long\n"},
		{"l", nil, "l: line too long\n"},
		{"l k - f", []string{"ab\n", "ab\n", "cde\n", "one\n", "two"}, "l: line too long\nk: line too long\n"},
	} {
		for _, name := range names() {
			if name == "nl" && strings.Contains(c.operands, " ") {
				continue
			}
			var out, errs string
			for _, line := range c.lines {
				out += toldWhole(name, line)
			}
			for _, line := range strings.SplitAfter(c.errs, "\n") {
				if line != "" {
					errs += name + ": " + line
				}
			}
			status := min(1, len(errs))
			for buf := 1; buf < 12; buf++ {
				j := job("ab\ncde\n", command(name, c.operands))
				j.Lim.Buf = buf
				comes(t, j, numbered(out), errs, status)
				j.Faults = faults(strings.Repeat("i1", 40))
				comes(t, j, numbered(out), errs, status)
			}
		}
	}
	for _, name := range names() { // an operand without bytes
		comes(t, jobOf("q", name, ""), "", name+": no such file\n", 1)
	}
}

// A line of just Line bytes, and ones that are longer.
func TestLongLines(t *testing.T) {
	for _, c := range []struct {
		in    string
		lines string // that are told
		isBad bool
	}{
		{"1234567\n", "1234567\n", false},
		{"12345678\n", "12345678\n", false},
		{"12345678", "12345678", false},
		{"123456789\n", "", true},
		{"123456789", "", true},
		{"a\n12345678\n123456789\nb\n", "a\n12345678\n", true},
		{"a\n" + strings.Repeat("x", 100) + "\n", "a\n", true},
	} {
		for _, name := range names() {
			out := ""
			for _, line := range strings.SplitAfter(c.lines, "\n") {
				if line != "" {
					out += toldWhole(name, line)
				}
			}
			errs, status := "", 0
			if c.isBad {
				errs, status = name+": -: line too long\n", 1
			}
			for buf := 1; buf < 20; buf++ {
				j := job(c.in, command(name, ""))
				j.Lim.Buf = buf
				comes(t, j, numbered(out), errs, status)
			}
		}
	}
}

// What is held is what the reader holds, a line and what was read ahead, however much is told of it.
func TestHolds(t *testing.T) {
	in := strings.Repeat("a\tcdefgh\n", 20)
	for _, c := range []struct{ args, line string }{
		{"fold -w 1", "a\n\t\nc\nd\ne\nf\ng\nh\n"},
		{"fold -s -w 10", "a\t\ncdefgh\n"},
		{"expand -t 200", "a" + strings.Repeat(" ", 199) + "cdefgh\n"},
		{"unexpand -a", "a\tcdefgh\n"},
		{"nl -w 100 -v 0 -i 0 -n rz", strings.Repeat("0", 100) + "\ta\tcdefgh\n"},
	} {
		for buf := 1; buf < 40; buf++ {
			j := job(in, c.args)
			j.Lim.Buf = buf
			comes(t, j, strings.Repeat(c.line, 20), "", 0)
		}
		j := job("a\tcdefgh\n1", c.args)
		j.Lim.Buf = 10
		if r := run(t, j); r.Peak != 10 {
			t.Errorf("%s: %d bytes were held", c.args, r.Peak)
		}
	}
}

// More inputs than there are descriptors: each is closed behind its turn.
func TestManyInputs(t *testing.T) {
	for _, name := range []string{"fold", "expand", "unexpand"} {
		comes(t, job("q", name+strings.Repeat(" f d", 20)), strings.Repeat("one\ntwo", 20), strings.Repeat(name+": d: is a directory\n", 20), 1)
	}
}

// Buf is 4: each Read has a sign, and each Write.
func TestFailures(t *testing.T) {
	for _, c := range []struct {
		in, args, signs, out, errs string
		status                     int
	}{
		{"ab\ncd\nef", "expand", "e", "", "expand: -: input/output error\n", 1},
		{"ab\ncd\nef", "expand", "..e", "ab\n", "expand: -: input/output error\n", 1},           // in the midst of the second line
		{"ab\ncd\nef", "unexpand", "....e", "ab\ncd\n", "unexpand: -: input/output error\n", 1}, // the third one is not known to be whole
		{"abc\ndef\n", "fold", "..e", "abc\n", "fold: -: input/output error\n", 1},              // between two lines
		{"ab\ncd\n", "fold - f", "e", "one\ntwo", "fold: -: input/output error\n", 1},           // the next input is read
		{"ab\ncd\n", "expand f -", "e", "ab\ncd\n", "expand: f: input/output error\n", 1},
		{"ab\ncd\n", "nl -w1", "..e", "1\tab\n", "nl: -: input/output error\n", 1},
		{"ab\ncd\n", "nl f", "e", "", "nl: f: input/output error\n", 1},
		{"ab\ncd\n", "fold -w 1", ".e", "", "fold: standard output: input/output error\n", 1},
		{"ab\ncd\n", "expand", ".s", "", "expand: standard output: no space left\n", 1},
		{"ab\ncd\n", "unexpand - f x", ".p", "", "unexpand: standard output: broken pipe\n", 1},
		{"ab\ncd\n", "fold -w 1 - f", ".2s", "a\n", "fold: standard output: no space left\n", 1},
		{"\tb\ncd\n", "expand - f", ".3..p", "        b\n", "expand: standard output: broken pipe\n", 1},
		{"        b\ncd\n", "nl", "...8s", "     1\t ", "nl: standard output: no space left\n", 1},
		{"ab\ncd\n", "fold", "s.s", "ab\ncd\n", "", 0},       // a Read does not mind it
		{"ab\ncd\n", "unexpand x f", "s", "one\ntwo", "", 1}, // nothing is done about what can't be said
		{"ab\ncd\n", "fold", "ee", "", "", 1},
		{"ab\ncd\n", "nl", ".se", "", "", 1},
		{"ab\ncd\n", "fold -w 0", "p", "", "", 1},
		{"ab\ncd\n", "expand -t 0", "5p", "", "expan", 1},
	} {
		j := faulty(c.in, c.args, c.signs)
		j.Lim = lim(4, 20)
		comes(t, j, c.out, c.errs, c.status)
	}
}

func TestDescriptors(t *testing.T) {
	for _, name := range names() {
		r := newRig(t, job("ab\n", name))
		r.put(0)
		r.ends("", name+": -: bad descriptor\n", 1)
		r = newRig(t, job("ab\n", name))
		r.put(r.out)
		r.ends("", name+": -: invalid\n", 1)
		r = newRig(t, job("ab\ncd\n", name))
		r.put(r.in, 0)
		r.ends("", name+": standard output: bad descriptor\n", 1)
		r = newRig(t, job("ab\n", name+" x"))
		r.put(r.in, r.out, 0)
		r.ends("", "", 1)
		r = newRig(t, job("ab\n", name+" -x"))
		r.put(r.in, r.out, 0)
		r.ends("", "", 1)
	}
}

// A file that is told to becomes too great.
func TestToAFile(t *testing.T) {
	for _, c := range []struct{ args, line string }{
		{"fold -w 4", "1234\n\t\n67\n"},
		{"expand", "1234    67\n"},
		{"unexpand", "1234\t67\n"},
		{"nl -i 0 -w 1", "1\t1234\t67\n"},
	} {
		j := job("", c.args)
		j.In, j.Lim = []byte(strings.Repeat("1234\t67\n", 2000)), lim(4000, 8)
		r := newRig(t, j)
		fd, _ := r.p.Table().Open("", "/new", api.OpenWrite)
		r.p.Table().Dup(fd, 1)
		r.ends("", strings.Fields(c.args)[0]+": standard output: no space left\n", 1)
		n, _ := r.k.Tree().Find("", "/new")
		if b := r.k.Tree().Read(n, 0, 10000); string(b) != strings.Repeat(c.line, 2000)[:api.MaxData] {
			t.Errorf("%s: %d bytes were told: %q", c.args, len(b), b[:20])
		}
	}
}

// With each step a call: nothing is seen of one ahead of it.
func TestStepByStep(t *testing.T) {
	for _, c := range []struct {
		args string
		told []string // ahead of the first step, and behind each
		held []int
	}{
		{"fold -w 1", []string{"", "", "a\nb\n", "a\nb\n", "a\nb\n\t\nd\n", "a\nb\n\t\nd\n", "a\nb\n\t\nd\ne"}, []int{0, 3, 1, 3, 1, 1, 0}},
		{"expand -t 2", []string{"", "", "ab\n", "ab\n", "ab\n  d\n", "ab\n  d\n", "ab\n  d\ne"}, []int{0, 3, 1, 3, 1, 1, 0}},
		{"unexpand", []string{"", "", "ab\n", "ab\n", "ab\n\td\n", "ab\n\td\n", "ab\n\td\ne"}, []int{0, 3, 1, 3, 1, 1, 0}},
		{"nl -w 1", []string{"", "", "1\tab\n", "1\tab\n", "1\tab\n2\t\td\n", "1\tab\n2\t\td\n", "1\tab\n2\t\td\n3\te"}, []int{0, 3, 1, 3, 1, 1, 0}},
		{"nl -w 0", []string{"", ""}, []int{0, 0}},
	} {
		r := newRig(t, job("ab\n\td\ne", c.args))
		m := width.Start(r.p)
		for n := range c.told {
			if n > 0 {
				m.Step()
			}
			if out := string(r.k.Said(r.out)); out != c.told[n] || m.Held() != c.held[n] {
				t.Errorf("%s, step %d: told %q, %d held, not %q, %d", c.args, n, out, m.Held(), c.told[n], c.held[n])
			}
		}
	}
}

func TestKilled(t *testing.T) {
	for _, name := range names() {
		r := newRig(t, job("a\nb\nc\nd\n", name+" f"))
		m := width.Start(r.p)
		m.Step()
		m.Step()
		m.Kill()
		if !m.Done() || m.Status() != 137 || m.Held() != 0 || len(r.p.Table().Fds()) != 0 {
			t.Errorf("%s: %v, %d, %d held, %v", name, m.Done(), m.Status(), m.Held(), r.p.Table().Fds())
		}
	}
}

// box starts these utilities, cat and the like, and by the name `test` what a test does.
type box struct{ main func(p *proc.Proc) int }

func (b box) Start(p *proc.Proc) *proc.Machine {
	p.In(b)
	if p.Args()[0] == "test" {
		return proc.Go(p, b.main)
	}
	if m := width.Start(p); m != nil {
		return m
	}
	return flow.Start(p)
}

// pipe runs two commands, of which the second one reads what the first one writes: 1000 times the status of the first one, and that of the second one.
func pipe(first, second string) func(p *proc.Proc) int {
	return func(p *proc.Proc) int {
		from, to, _ := p.Pipe()
		a, _ := p.Spawn(strings.Fields(first), nil, "", []api.Move{{From: to, To: 1}, {From: -1, To: from}, {From: -1, To: to}})
		b, _ := p.Spawn(strings.Fields(second), nil, "", []api.Move{{From: from, To: 0}, {From: -1, To: from}, {From: -1, To: to}})
		p.Close(from)
		p.Close(to)
		one, _ := p.Wait(a)
		two, _ := p.Wait(b)
		return 1000*one + two
	}
}

// Children wait for pipes that are empty or full, and go on, whosever turn it is.
func TestPipelines(t *testing.T) {
	long := strings.Repeat("\tab cd\n", 15) + "e"
	for _, c := range []struct {
		first, second, out, errs string
		status                   int
	}{
		{"cat", "fold -sw 4", strings.Repeat("\t\nab \ncd\n", 15) + "e", "", 0},
		{"cat", "expand -t 3", strings.Repeat("   ab cd\n", 15) + "e", "", 0},
		{"cat", "nl -w 1 -i 0", strings.Repeat("1\t\tab cd\n", 15) + "1\te", "", 0},
		{"expand -t 4", "fold -w 3", strings.Repeat("   \n ab\n cd\n", 15) + "e", "", 0}, // two of the document's examples
		{"expand", "unexpand", long, "", 0},
		{"expand -t 100", "wc -c", "1591\n", "", 0},
		{"fold -w 1", "wc -l", "90\n", "", 0},
		{"nl -bn -w 100", "expand -t 120", strings.Repeat(strings.Repeat(" ", 120)+"ab cd\n", 15) + strings.Repeat(" ", 101) + "e", "", 0},
		{"nl", "fold -w 0", "", "fold: usage\n", 141001},
		{"expand -t 0", "nl", "", "expand: usage\n", 1000},
	} {
		for _, picks := range [][]int{nil, {0, 0, 0, 0, 0, 0, 0, 0, 0, 0}, {1, 1, 1, 1, 0, 0, 0, 1}, {1, 0, 2, 5, -1, 7, 7, 7}} {
			for buf := 1; buf < 200; buf += 66 {
				j := job(long, "test")
				j.Lim, j.Picks = lim(buf, 200), picks
				j.Faults = faults(strings.Repeat("1i3", 20))
				r, ok := proc.Run(j, box{pipe(c.first, c.second)}.Start)
				if !ok || string(r.Out) != c.out || string(r.Err) != c.errs || r.Status != c.status {
					t.Errorf("%s | %s, Buf %d, Picks %v: %v, told %q, said %q, %d", c.first, c.second, buf, picks, ok, r.Out, r.Err, r.Status)
				}
			}
		}
	}
}

// Inputs, lines and lists of more than a few bytes.
func TestLong(t *testing.T) {
	in := strings.Repeat("word\tand word\n", 3000)
	for _, buf := range []int{1, 7, 4096, 1 << 40} {
		for _, c := range []struct{ args, out string }{
			{"fold -w 10", strings.Repeat("word\tan\nd word\n", 3000)},
			{"fold -bsw 9", strings.Repeat("word\tand \nword\n", 3000)},
			{"expand", strings.Repeat("word    and word\n", 3000)},
			{"unexpand -t 8", in},
			{"nl -w 1 -i 0", strings.Repeat("1\tword\tand word\n", 3000)},
		} {
			j := job(in, c.args)
			j.Lim = lim(buf, 13)
			comes(t, j, c.out, "", 0)
		}
	}
	var parts []string
	for n := range 50000 {
		parts = append(parts, digits(2*n+2))
	}
	list := strings.Join(parts, ",")
	tabs := strings.Repeat("\t", 50000)
	for _, c := range []struct {
		in, out string
		args    []string
	}{
		{strings.Repeat("x", 100000), strings.Repeat("x\n", 99999) + "x", []string{"fold", "-w", "1"}},
		{strings.Repeat("x ", 50000), strings.Repeat("x \n", 49999) + "x ", []string{"fold", "-s", "-w", "3"}},
		{strings.Repeat("\b", 100000) + "ab", strings.Repeat("\b", 100000) + "a\nb", []string{"fold", "-s", "-w", "1"}},
		{tabs + "x", strings.Repeat(" ", 100000) + "x", []string{"expand", "-t", list}},
		{tabs + "\tx", strings.Repeat(" ", 100001) + "x", []string{"expand", "-t", list}},
		{tabs + "\tx", tabs + " x", []string{"unexpand", "-t", list}},
		{strings.Repeat(" ", 100000), tabs, []string{"unexpand", "-t", list}},
		{strings.Repeat("x  ", 30000), strings.Repeat("x  x\t", 15000), []string{"unexpand", "-at", "6"}},
		{"x\n", "     1" + list + "x\n", []string{"nl", "-s", list}},
	} {
		j := jobOf(c.in, c.args...)
		j.Lim = lim(1<<20, 1<<20)
		comes(t, j, c.out, "", 0)
	}
}

// A tab may become more blanks than there is room for: they are told as they come, and where they can't be told, no more are made.
func TestBlanksBeyondAllRoom(t *testing.T) {
	for _, n := range []int{4095, 4096, 4097, 8192, 20000} {
		want := "a" + strings.Repeat(" ", n-1) + "b" + strings.Repeat(" ", n-1) + "c\n"
		for _, signs := range []string{"", "i1i2i3", ".1.i....2"} {
			comes(t, faulty("a\tb\tc\n", "expand -t "+digits(n), signs), want, "", 0)
		}
		r := run(t, faulty("a\tb\tc\n", "expand -t "+digits(n), "..1.s"))
		if len(r.Out) == 0 || !strings.HasPrefix(want, string(r.Out)) || string(r.Err) != "expand: standard output: no space left\n" || r.Status != 1 {
			t.Errorf("%d: %d bytes told, said %q, %d", n, len(r.Out), r.Err, r.Status)
		}
	}
	j := faulty(strings.Repeat("\t", 60), "expand -t 2147483647", "...s")
	j.Lim = lim(60, 60)
	r := run(t, j)
	if len(r.Out) == 0 || len(r.Out) > 10000 || strings.Trim(string(r.Out), " ") != "" || r.Status != 1 || string(r.Err) != "expand: standard output: no space left\n" {
		t.Errorf("%d bytes told, said %q, %d", len(r.Out), r.Err, r.Status)
	}
}

// scribble changes bytes, and the room behind them.
func scribble(b []byte) {
	b = b[:cap(b)]
	for i := range b {
		b[i] = '#'
	}
}

// R4: a job is neither changed nor kept, the room behind its lists neither; what came of it is its owner's.
func TestNothingIsShared(t *testing.T) {
	for _, args := range []string{"fold -w 2 - f x", "fold", "fold -bs -w 1", "fold -x", "expand - h", "expand -t 2,3", "expand -t 0", "unexpand", "unexpand -a - h", "unexpand -t 2 h d", "nl", "nl -ba -s , h", "nl -n rz k", "nl - -"} {
		fresh := func() api.Job {
			j := faulty("ab\tc\n  d\n", args, "i1.2")
			j.Args = append(j.Args, "spare")[:len(j.Args)]
			j.In = append(j.In, "spare"...)[:len(j.In)]
			j.Env, j.Picks = []string{"A=1"}, []int{3, 1}
			return j
		}
		j := fresh()
		first, want := run(t, j), run(t, fresh())
		isAsItWas := func() bool {
			n, k := len(j.Args), len(j.In)
			return reflect.DeepEqual(j, fresh()) && j.Args[:n+1][n] == "spare" && string(j.In[:k+5][k:]) == "spare"
		}
		if !isAsItWas() {
			t.Errorf("%s: the job has changed: %v", args, j)
		}
		scribble(first.Out)
		scribble(first.Err)
		for _, n := range first.Nodes {
			scribble(n.Data)
		}
		clear(first.Nodes[:cap(first.Nodes)])
		if !isAsItWas() {
			t.Errorf("%s: the job shares with its result: %v", args, j)
		}
		if again := run(t, j); !reflect.DeepEqual(again, want) {
			t.Errorf("%s: %v, not %v", args, again, want)
		}
	}
}

// R4: a process that is started has its arguments and its input for itself.
func TestArgumentsAreNotKept(t *testing.T) {
	j := job("abc", "fold -w 2")
	r := newRig(t, j)
	copy(j.Args, []string{"nl", "-v", "7"})
	scribble(j.In)
	r.ends("ab\nc", "", 0)
}
