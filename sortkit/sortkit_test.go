package sortkit_test

import (
	"reflect"
	"slices"
	"strings"
	"testing"

	"toolchest/api"
	"toolchest/ends"
	"toolchest/flow"
	"toolchest/proc"
	"toolchest/sortkit"
)

func TestExamples(t *testing.T) {
	comes(t, job("b\na\n", "sort"), "a\nb\n", "", 0)
	comes(t, job("b\nB\na\n", "sort -u -f"), "a\nb\n", "", 0)
	comes(t, job("b\na\n", "sort -c"), "", "sort: -: not in order\n", 1)
}

func TestOtherNames(t *testing.T) {
	for _, args := range [][]string{nil, {}, {""}, {"sor"}, {"sorts"}, {"Sort"}, {"SORT"}, {"sort "}, {" sort"}, {"/sort"}, {"x", "sort"}, {"", "sort"}, {"uniq"}, {"cat"}, {"sortkit"}, {"-u"}} {
		j := jobOf("q", args...)
		if sortkit.Start(newRig(t, j).p) != nil {
			t.Errorf("%q was started", args)
		}
		if r, ok := sortkit.Run(j); ok || !reflect.DeepEqual(r, api.Result{}) {
			t.Errorf("%q was run: %v", args, r)
		}
	}
}

func TestJobsThatMayNotBe(t *testing.T) {
	for _, args := range []string{"sort", "sort -c", "sort -o f"} {
		for _, limits := range []api.Limits{lim(0, 1, 1), lim(1<<40+1, 1, 1), lim(1, 2, 1), lim(1, 0, 1), lim(1, 1, 1<<40+1), {}} {
			j := job("q", args)
			j.Lim = limits
			if r, ok := sortkit.Run(j); ok || !reflect.DeepEqual(r, api.Result{}) {
				t.Errorf("%s, %v: it was run: %v", args, limits, r)
			}
		}
	}
}

// The greatest limits that a job may have, and the least.
func TestLimitsThatMayBe(t *testing.T) {
	for _, l := range []api.Limits{lim(1<<40, 1<<40, 1<<40), lim(1, 1, 1<<40), lim(1<<40, 1, 1), lim(1, 1<<40, 1<<40), lim(1, 1, 1)} {
		for _, c := range []struct{ args, out string }{{"sort", "a\nb\nc\n"}, {"sort -u", "a\nb\nc\n"}, {"sort -r", "c\nb\na\n"}} {
			j := job("b\nc\na", c.args)
			j.Lim = l
			comes(t, j, c.out, "", 0)
		}
	}
}

// Limits that only a process may have that no job has run: it comes to an end, and no spill file is left.
func TestLimitsThatMayNotBe(t *testing.T) {
	for _, buf := range []int{0, -1, -1 << 63} {
		for _, args := range []string{"sort", "sort -c", "sort -u -"} {
			j := job("q", args)
			j.Lim = api.Limits{Buf: buf}
			newRig(t, j).ends("", "sort: -: invalid\n", 2)
		}
	}
	const most = 1<<63 - 1
	for _, l := range []api.Limits{lim(most, most, most), lim(1, most, most), lim(most, 2, 2), lim(1, most, 0), lim(1, 8, -1), lim(1, 8, -1<<63), lim(most, 8, 8)} {
		j := job(falling(20), "sort")
		j.Lim = l
		newRig(t, j).ends(turned(falling(20)), "", 0)
	}
	for _, l := range []api.Limits{lim(1, -1, 1), lim(1, -1<<63, -1<<63), lim(4, -2, most)} {
		j := job(falling(20), "sort")
		j.Lim = l
		newRig(t, j).ends("", "sort: -: line too long\n", 2)
	}
}

func TestCwd(t *testing.T) {
	j := job("q", "sort g ../f f")
	j.Cwd = "/d"
	comes(t, j, "apple\nfig\nfig\ngg\npear\n", "sort: f: no such file\n", 2)
	j.Args = strings.Fields("sort -o z ../f g")
	comesTo(t, j, api.Result{Nodes: with(j.Nodes, "/d/z", "apple\nfig\nfig\ngg\npear\n")})
}

// With each step a call: nothing is seen of one ahead of it.
func TestStepByStep(t *testing.T) {
	for _, c := range []struct {
		args string
		told []string // ahead of the first step, and behind each
		held []int
	}{
		{"sort", []string{"", "", "", "", "a\n", "a\nb\n", "a\nb\nc\n"}, []int{0, 4, 5, 6, 6, 6, 0}},
		{"sort -c", []string{"", "", "", "", ""}, []int{0, 1, 2, 2, 0}},
	} {
		r := newRig(t, job("b\nc\na", c.args))
		m := r.start()
		for n := range c.told {
			if n > 0 {
				m.Step()
			}
			if out := string(r.k.Said(r.out)); out != c.told[n] || m.Held() != c.held[n] {
				t.Errorf("%s, step %d: told %q, %d held, not %q, %d", c.args, n, out, m.Held(), c.told[n], c.held[n])
			}
		}
	}
}

// box starts sort, cat and the like, head, and by the name `test` what a test does.
type box struct{ main func(p *proc.Proc) int }

func (b box) Start(p *proc.Proc) *proc.Machine {
	p.In(b)
	if p.Args()[0] == "test" {
		return proc.Go(p, b.main)
	}
	for _, start := range []func(*proc.Proc) *proc.Machine{sortkit.Start, flow.Start} {
		if m := start(p); m != nil {
			return m
		}
	}
	return ends.Start(p)
}

// pipe runs two commands, of which the second one reads what the first one writes: 1000 times the status of the first one, and that of the second one.
func pipe(first, second string) func(p *proc.Proc) int {
	return func(p *proc.Proc) int {
		from, to, _ := p.Pipe()
		a, _ := p.Spawn(strings.Fields(first), nil, "", []api.Move{{From: to, To: 1}, {From: -1, To: from}, {From: -1, To: to}})
		b, _ := p.Spawn(strings.Fields(second), nil, "", []api.Move{{From: from, To: 0}, {From: -1, To: from}, {From: -1, To: to}})
		p.Close(from)
		p.Close(to)
		one, _ := p.Wait(a)
		two, _ := p.Wait(b)
		return 1000*one + two
	}
}

// Children wait for pipes that are empty or full, and go on, whosever turn it is; also where both spill, and take names from each other.
func TestPipelines(t *testing.T) {
	in := falling(45)
	out := turned(in)
	for _, c := range []struct {
		first, second, out, errs string
		status                   int
	}{
		{"cat", "sort", out, "", 0},
		{"sort", "cat", out, "", 0},
		{"sort", "sort -r", in, "", 0},
		{"sort -u", "sort -c", "", "", 0},
		{"cat", "sort -c", "", "sort: -: not in order\n", 141001},
		{"sort", "wc -l", "45\n", "", 0},
		{"sort x", "sort f -", "apple\nfig\nfig\npear\n", "sort: x: no such file\n", 2000},
		{"cat", "sort -x", "", "sort: usage\n", 141002},
		// Who reads no more ends the other one, of which no spill file is left.
		{"sort", "head -n 1", out[:3], "", 141000},
		{"sort - f f f f f", "head -n 1", out[:3], "", 141000},
	} {
		for _, picks := range [][]int{nil, {0, 0, 0, 0, 0, 0, 0, 0, 0, 0}, {1, 1, 1, 1, 0, 0, 0, 1}, {1, 0, 2, 5, -1, 7, 7, 7}} {
			for _, l := range []api.Limits{lim(3, 8, 1000), lim(2, 8, 30), lim(1, 8, 8)} {
				j := job(in, "test")
				j.Lim, j.Picks = l, picks
				j.Faults = faults(strings.Repeat("1i3", 20))
				r, ok := proc.Run(j, box{pipe(c.first, c.second)}.Start)
				if !ok || string(r.Out) != c.out || string(r.Err) != c.errs || r.Status != c.status {
					t.Errorf("%s | %s, Lim %v, Picks %v: %v, told %q, said %q, %d", c.first, c.second, l, picks, ok, r.Out, r.Err, r.Status)
				}
				if !areSame(r.Nodes, dumped(t, j.Nodes)) {
					t.Errorf("%s | %s, Lim %v, Picks %v: the tree is %v", c.first, c.second, l, picks, r.Nodes)
				}
			}
		}
	}
}

// Two that sort at one time, and spill to one directory: each has its own spill files.
func TestTwoAtOnce(t *testing.T) {
	main := func(p *proc.Proc) int {
		a, _ := p.Spawn([]string{"sort", "-o", "y", "p"}, nil, "", nil)
		b, _ := p.Spawn([]string{"sort", "-r", "-o", "z", "q"}, nil, "", nil)
		one, _ := p.Wait(a)
		two, _ := p.Wait(b)
		return 10*one + two
	}
	in := falling(40)
	for _, picks := range [][]int{nil, slices.Repeat([]int{0}, 150), slices.Repeat([]int{0, 1, 1}, 100), slices.Repeat([]int{1}, 70), slices.Repeat([]int{0, 0, 0, 0, 0, 1, 1}, 100)} {
		j := job("", "test")
		j.Nodes = append(j.Nodes, file("/p", in), file("/q", turned(in)))
		j.Lim, j.Picks = lim(2, 4, 4), picks
		r, ok := proc.Run(j, box{main}.Start)
		want := dumped(t, with(with(j.Nodes, "/y", turned(in)), "/z", in))
		if !ok || r.Status != 0 || len(r.Err) > 0 || !areSame(r.Nodes, want) {
			t.Errorf("Picks %v: %v, said %q, %d, the tree %v", picks, ok, r.Err, r.Status, r.Nodes)
		}
	}
}

// Inputs of more than a few bytes, and more than a few operands, in one run.
func TestLong(t *testing.T) {
	var rising, falling strings.Builder
	for i := range 20000 {
		rising.WriteString(numbered(i))
		falling.WriteString(numbered(19999 - i))
	}
	for _, buf := range []int{1, 7, 4096, 1 << 40} {
		for _, args := range []string{"sort", "sort -n", "sort -u", "sort -k 1,1"} {
			j := job(falling.String(), args)
			j.Lim = lim(buf, 6, 1<<20)
			comes(t, j, rising.String(), "", 0)
		}
		j := job(rising.String(), "sort -c")
		j.Lim = lim(buf, 6, 6)
		comes(t, j, "", "", 0)
	}
	j := jobOf("q", append([]string{"sort"}, slices.Repeat([]string{"f", "e", "x"}, 500)...)...)
	comes(t, j, strings.Repeat("apple\n", 500)+strings.Repeat("fig\n", 1000)+strings.Repeat("pear\n", 500), strings.Repeat("sort: x: no such file\n", 500), 2)
	line := strings.Repeat("word ", 20000)
	j = job("x"+line+"\n"+line, "sort")
	j.Lim = lim(4096, 1<<20, 1<<20)
	comes(t, j, line+"\nx"+line+"\n", "", 0)
	j.Lim = lim(1, 1<<20, 1<<20)
	comes(t, j, line+"\nx"+line+"\n", "", 0)
}

// numbered is a line of five digits.
func numbered(n int) string {
	digits := "00000" + strings.TrimLeft(string([]byte{'0' + byte(n/10000%10), '0' + byte(n/1000%10), '0' + byte(n/100%10), '0' + byte(n/10%10), '0' + byte(n%10)}), "0")
	return digits[len(digits)-5:] + "\n"
}

// scribble changes bytes, and the room behind them.
func scribble(b []byte) {
	b = b[:cap(b)]
	for i := range b {
		b[i] = '#'
	}
}

// R4: a job is neither changed nor kept, the room behind its lists neither; what came of it is its owner's.
func TestNothingIsShared(t *testing.T) {
	for _, args := range []string{"sort", "sort -u", "sort - f x", "sort -o f f -", "sort -o z", "sort -c", "sort -C f", "sort -x", "sort -t a -k 2"} {
		for _, l := range limitsOf() {
			fresh := func() api.Job {
				j := faulty("ghi\nabc\ndef\nabc\nxyz\nmno\n", args, "i1.2")
				j.Args = append(j.Args, "spare")[:len(j.Args)]
				j.In = append(j.In, "spare"...)[:len(j.In)]
				j.Env, j.Picks, j.Lim = []string{"A=1"}, []int{3, 1}, l
				return j
			}
			j := fresh()
			first, want := run(t, j), run(t, fresh())
			isAsItWas := func() bool {
				n, k := len(j.Args), len(j.In)
				return reflect.DeepEqual(j, fresh()) && j.Args[:n+1][n] == "spare" && string(j.In[:k+5][k:]) == "spare"
			}
			if !isAsItWas() {
				t.Errorf("%s: the job has changed: %v", args, j)
			}
			scribble(first.Out)
			scribble(first.Err)
			for _, n := range first.Nodes {
				scribble(n.Data)
			}
			clear(first.Nodes[:cap(first.Nodes)])
			if !isAsItWas() {
				t.Errorf("%s: the job shares with its result: %v", args, j)
			}
			if again := run(t, j); !reflect.DeepEqual(again, want) {
				t.Errorf("%s: %v, not %v", args, again, want)
			}
		}
	}
}

// R4: a process that is started has its arguments for itself.
func TestArgumentsAreNotKept(t *testing.T) {
	j := job("b\na\n", "sort -r")
	r := newRig(t, j)
	j.Args[0], j.Args[1] = "cat", "-u"
	scribble(j.In)
	r.ends("b\na\n", "", 0)
}
