package sortkit_test

import (
	"regexp"
	"slices"
	"strconv"
	"strings"
	"testing"

	"toolchest/api"
	"toolchest/order"
	"toolchest/proc"
	"toolchest/sortkit"
)

// falling are so many lines, of which each one is ahead of the one before it.
func falling(n int) string {
	var s string
	for i := range n {
		s += string([]byte{'a' + byte((n-i)/26), 'a' + byte((n-i)%26), '\n'})
	}
	return s
}

// turned are a text's lines the other way round.
func turned(s string) string {
	lines := strings.SplitAfter(s, "\n")
	slices.Reverse(lines)
	return strings.Join(lines, "")
}

// watch steps a job to its end, and looks at the spill files ahead of each step: how many there are at most, and the names that there were.
func watch(t *testing.T, j api.Job) (api.Result, int, []string) {
	t.Helper()
	r := newRig(t, j)
	o, _ := order.Read(askedOf(j.Args).opts)
	others := r.spills()
	before := others
	most := 0
	var names []string
	got := r.result(func(m *proc.Machine) {
		now := r.spills()
		most = max(most, len(now)-len(others))
		for _, name := range now {
			if slices.Contains(others, name) {
				continue
			}
			if !slices.Contains(before, name) {
				names = append(names, name)
				isFirstFree(t, j, before, name)
			}
			isSorted(t, j, o, name, r.dataOf(name))
		}
		before = now
		if m.Held() > mostHeld(j) {
			t.Errorf("%q, In %q, Lim %v: %d bytes are held", j.Args, j.In, j.Lim, m.Held())
		}
	})
	if may := 3 + 2*bytesOf(j)/(j.Lim.Line+j.Lim.Buf); most > may {
		t.Errorf("%q, In %q, Lim %v: %d spill files, more than %d", j.Args, j.In, j.Lim, most, may)
	}
	if left := r.spills(); !slices.Equal(left, others) {
		t.Errorf("%q, In %q, Lim %v: %q are left, not %q", j.Args, j.In, j.Lim, left, others)
	}
	return got, most, names
}

// isFirstFree fails, if a name is not the first one that there was not.
func isFirstFree(t *testing.T, j api.Job, before []string, name string) {
	t.Helper()
	n, err := strconv.Atoi(strings.TrimPrefix(name, ".sort"))
	if err != nil || name != ".sort"+strconv.Itoa(n) {
		t.Errorf("%q: a spill file %q", j.Args, name)
	}
	for i := range n {
		if other := ".sort" + strconv.Itoa(i); !slices.Contains(before, other) {
			t.Errorf("%q: %q was made, though there was no %q", j.Args, name, other)
		}
	}
}

// isSorted fails, if a run is not; of its last line perhaps not all is written.
func isSorted(t *testing.T, j api.Job, o *order.Order, name, data string) {
	t.Helper()
	lines := strings.Split(data, "\n")
	for i := 1; i < len(lines)-1; i++ {
		if o.Keys([]byte(lines[i-1]), []byte(lines[i])) > 0 {
			t.Errorf("%q: %s is not sorted: %q", j.Args, name, data)
		}
	}
}

// P13.4: what is more than a run is spilt, and what is not, is not.
func TestRuns(t *testing.T) {
	const lines = 12
	in := falling(lines)
	for _, c := range []struct {
		run     int
		isSpilt bool
	}{
		{4, true}, {10, true}, {20, true}, {len(in) - 1, true},
		{len(in) + 4 + 1, false}, {len(in) + 4 + 2, false}, {2 * len(in), false}, {1 << 40, false},
	} {
		for _, args := range []string{"sort", "sort -u", "sort -f - e", "sort -o z"} {
			j := job(in, args)
			j.Lim = lim(2, 4, c.run)
			got, most, _ := watch(t, j)
			if want := pure(t, j); string(got.Out) != string(want.Out) || got.Status != 0 || !areSame(got.Nodes, dumped(t, want.Nodes)) {
				t.Errorf("%s, Run %d: %v", args, c.run, got)
			}
			if most > 0 != c.isSpilt {
				t.Errorf("%s, Run %d: %d spill files", args, c.run, most)
			}
		}
	}
}

// A run that is as great as the inputs, or about so.
func TestRunsAsGreatAsTheInputs(t *testing.T) {
	in := falling(10)
	for run := 4; run < 60; run++ {
		for buf := 1; buf < 20; buf += 3 {
			j := job(in, "sort")
			j.Lim = lim(buf, 4, run)
			comes(t, j, turned(in), "", 0)
		}
	}
}

// How many spill files stand there: few, even of many runs.
func TestHowManyStandThere(t *testing.T) {
	for _, c := range []struct{ lines, most int }{{1, 0}, {4, 2}, {8, 3}, {16, 4}, {32, 5}, {64, 6}, {128, 7}} {
		j := job(falling(c.lines), "sort")
		j.Lim = lim(1, 2, 2)
		got, most, _ := watch(t, j)
		if string(got.Out) != turned(falling(c.lines)) || most > c.most {
			t.Errorf("%d lines: told %q, %d spill files", c.lines, got.Out, most)
		}
		within(t, j, got)
	}
}

// As many as there may be of few bytes; and jobs of all kinds.
func TestSpillFilesByChance(t *testing.T) {
	c := chanceOf(21)
	spilt := 0
	for range 700 {
		j := c.job()
		j.Args = slices.DeleteFunc(j.Args, func(arg string) bool { return arg == "-c" || arg == "-C" || arg == "-cC" })
		got, most, _ := watch(t, j)
		want := pure(t, j)
		if string(got.Out) != string(want.Out) || string(got.Err) != string(want.Err) || got.Status != want.Status || !areSame(got.Nodes, dumped(t, want.Nodes)) {
			t.Errorf("%q, In %q, Lim %v: %v, not %v", j.Args, j.In, j.Lim, got, want)
		}
		if most > 0 {
			spilt++
		}
	}
	if spilt < 200 || spilt > 600 {
		t.Errorf("of 700 jobs %d have spilt", spilt)
	}
}

// Inputs without a line feed at their ends have one in a spill file.
func TestManyInputsWithoutALineFeed(t *testing.T) {
	for _, l := range []api.Limits{lim(1, 1, 1), lim(1, 2, 2), lim(4, 1, 6), lim(2, 3, 3)} {
		j := jobOf("", "sort")
		var out string
		for i := range 60 {
			name := string([]byte{'A' + byte(i/8), 'a' + byte(i%8)})
			j.Nodes = append(j.Nodes, file("/"+name, string([]byte{'~' - byte(i)})))
			j.Args = append(j.Args, name)
			out = string([]byte{'~' - byte(i), '\n'}) + out
		}
		j.Lim = l
		got, _, _ := watch(t, j)
		if string(got.Out) != out || got.Status != 0 {
			t.Errorf("Lim %v: %v", l, got)
		}
		within(t, j, got)
	}
}

// Names that stand there already are passed over, whatever they are.
func TestNamesThatStandThere(t *testing.T) {
	in := falling(20)
	for _, c := range []struct {
		others []api.Node
		first  string
	}{
		{nil, ".sort0"},
		{[]api.Node{file("/.sort0", "q\n")}, ".sort1"},
		{[]api.Node{{Path: "/.sort0", Dir: true, Mode: 0o755}}, ".sort1"},
		{[]api.Node{file("/.sort1", "q\n")}, ".sort0"},
		{[]api.Node{file("/.sort0", "q\n"), file("/.sort1", ""), file("/.sort3", "")}, ".sort2"},
		{[]api.Node{file("/.sort00", "q\n"), file("/.sort", ""), file("/.sorted", "")}, ".sort0"},
		{[]api.Node{file("/d/.sort0", "q\n"), file("/sort0", "")}, ".sort0"},
	} {
		j := tight(in, "sort")
		j.Nodes = append(j.Nodes, c.others...)
		got, _, names := watch(t, j)
		if string(got.Out) != turned(in) || got.Status != 0 || len(names) == 0 || names[0] != c.first {
			t.Errorf("%v: told %q, %d, the spill files %q", c.others, got.Out, got.Status, names)
		}
		if !areSame(got.Nodes, dumped(t, j.Nodes)) {
			t.Errorf("%v: the tree is %v", c.others, got.Nodes)
		}
	}
}

// Even where there are many of them it takes few steps (P13.5), with and without O.
func TestManyNamesThatStandThere(t *testing.T) {
	for _, args := range []string{"sort", "sort -o f"} {
		j := job(falling(40)+strings.Repeat("\n", 50), args)
		for i := range 180 {
			j.Nodes = append(j.Nodes, file("/.sort"+strconv.Itoa(i), ""))
		}
		j.Lim = lim(1, 2, 2)
		follows(t, j)
	}
}

// Spill files stand in Cwd.
func TestSpillFilesStandInCwd(t *testing.T) {
	j := tight(falling(20), "sort - g")
	j.Cwd = "/d"
	r := newRig(t, j)
	seen := false
	got := r.result(func(*proc.Machine) {
		names, _ := r.k.Tree().List("", "/d")
		seen = seen || slices.Contains(names, ".sort0")
		if l := r.spills(); len(l) > 0 {
			t.Errorf("%q stand in the root", l)
		}
	})
	if !seen || got.Status != 0 || !areSame(got.Nodes, dumped(t, j.Nodes)) {
		t.Errorf("%v, %v", seen, got)
	}
}

// A line of Line bytes is spilt, and read again; one that is longer is not.
func TestLongestLines(t *testing.T) {
	for line := 1; line < 12; line++ {
		long, short := strings.Repeat("x", line)+"\n", strings.Repeat("a", line)+"\n"
		for buf := 1; buf < 6; buf++ {
			j := job(strings.Repeat(long+short+"\n", 5)+long+"b", "sort")
			j.Lim = lim(buf, line, line)
			comes(t, j, strings.Repeat("\n", 5)+strings.Repeat(short, 5)+"b\n"+strings.Repeat(long, 6), "", 0)
			j.In = append([]byte(strings.Repeat(long+short+"\n", 5)+"x"), long...)
			comes(t, j, strings.Repeat("\n", 5)+strings.Repeat(short, 5)+strings.Repeat(long, 5), "sort: -: line too long\n", 2)
		}
	}
}

// What is held comes near to what may be held, and never above it.
func TestHeld(t *testing.T) {
	for _, l := range []api.Limits{lim(1, 1, 1), lim(1, 8, 8), lim(8, 1, 1), lim(8, 8, 8), lim(3, 5, 40), lim(1, 2, 100), lim(60, 3, 100), lim(200, 3, 3)} {
		for _, in := range []string{strings.Repeat("\n", 200), strings.Repeat("x\n", 150), strings.Repeat("\nx", 150), strings.Repeat(strings.Repeat("y", l.Line)+"\n", 60)} {
			for _, args := range []string{"sort", "sort -u", "sort -f"} {
				j := job(in, args)
				j.Lim = l
				r := run(t, j)
				within(t, j, r)
				if most := mostHeld(j); len(in) > 2*most && r.Peak < most-l.Line-1 {
					t.Errorf("%s, Lim %v: %d bytes of %d were held", args, l, r.Peak, most)
				}
			}
		}
	}
}

// A spill file that can't be made.
func TestSpillFilesThatCannotBeMade(t *testing.T) {
	in := falling(20)
	// Too deep.
	j := tight(in, "sort")
	var deep string
	for range api.MaxDepth {
		deep += "/n"
		j.Nodes = append(j.Nodes, api.Node{Path: deep, Dir: true, Mode: 0o755})
	}
	j.Cwd = deep
	comes(t, j, "", "sort: .sort0: too deep\n", 2)
	j.Args = []string{"sort", "-o", "/f"}
	comes(t, j, "", "sort: .sort0: too deep\n", 2)
	j.Args = []string{"sort", "-", "x", "/k"} // what comes behind it is not opened
	comes(t, j, "", "sort: .sort0: too deep\n", 2)
	j.Args = []string{"sort", "x", "-"}
	comes(t, j, "", "sort: x: no such file\nsort: .sort0: too deep\n", 2)
	// Too many entries: not even one may be made, or one, or two.
	for room := range 3 {
		j := tight(in, "sort - x")
		for len(j.Nodes) < api.MaxNodes-room {
			j.Nodes = append(j.Nodes, file("/n"+strconv.Itoa(len(j.Nodes)), ""))
		}
		comes(t, j, "", "sort: .sort"+strconv.Itoa(room)+": too many\n", 2)
	}
	// Four are enough for these.
	for len(j.Nodes) < api.MaxNodes-4 {
		j.Nodes = append(j.Nodes, file("/n"+strconv.Itoa(len(j.Nodes)), ""))
	}
	j.Cwd, j.Args = "", []string{"sort"}
	j.In = []byte(falling(20))
	comes(t, j, turned(in), "", 0)
}

// No descriptor is left for it.
func TestSpillFilesWithoutADescriptor(t *testing.T) {
	for taken, errs := range []string{"", "", "", "", "", "", "", "", "", "", "", "", "", "sort: .sort0: too many\n"} {
		r := newRig(t, tight(falling(20), "sort"))
		for i := range taken {
			r.p.Table().Put(3+i, r.in)
		}
		switch {
		case errs != "":
			r.ends("", errs, 2)
		case taken > 10: // there is room for one or two, and none for three
			got := r.result(nil)
			if len(got.Out) > 0 || got.Status != 2 || !strings.HasPrefix(string(got.Err), "sort: .sort") || !strings.HasSuffix(string(got.Err), ": too many\n") || len(r.spills()) > 0 {
				t.Errorf("%d are taken: %v", taken, got)
			}
		default:
			r.ends(turned(falling(20)), "", 0)
		}
	}
}

// A spill file that can't be written: of the first transfers to it none may fail, and nothing is told.
func TestSpillFilesThatCannotBeWritten(t *testing.T) {
	j := tight(falling(20), "sort")
	reads := strings.Repeat(".", 12) // as many as there are ahead of the first spill file's first byte
	for signs, word := range map[string]string{"s": "no space left", "e": "input/output error", "p": "broken pipe", "1s": "no space left", "i.i2e": "input/output error"} {
		j.Faults = faults(reads + signs)
		comes(t, j, "", "sort: .sort0: "+word+"\n", 2)
	}
	// Greater than a file may be.
	j = job(strings.Repeat("1234567\n", 3000), "sort")
	j.Lim = lim(4096, 8, 20000)
	comes(t, j, "", "sort: .sort0: no space left\n", 2)
	j.Args = []string{"sort", "-o", "f", "-", "x"}
	comes(t, j, "", "sort: .sort0: no space left\n", 2)
}

// Where no run is greater than a file may be, great inputs are sorted.
func TestGreatInputs(t *testing.T) {
	var lines []string
	for i := range 2000 {
		lines = append(lines, strconv.Itoa(1000+i*7919%9000)+"\n")
	}
	in := strings.Join(lines, "")[:8000]
	slices.Sort(lines[:1600])
	out := strings.Join(lines[:1600], "")
	for _, l := range []api.Limits{lim(1, 4, 4), lim(3, 4, 9), lim(64, 64, 64), lim(512, 60, 1000), lim(4096, 4096, 4096), lim(1, 4, 8000), lim(4096, 4, 1<<40)} {
		for _, args := range []string{"sort", "sort -n", "sort -o z"} {
			j := job(in, args)
			j.Lim = l
			want := api.Result{Out: []byte(out), Nodes: j.Nodes}
			if args == "sort -o z" {
				want = api.Result{Nodes: with(j.Nodes, "/z", out)}
			}
			comesTo(t, j, want)
		}
	}
}

// Half as many bytes again as a file may have: what is merged to a file is chosen so that none becomes greater.
func TestGreaterInputs(t *testing.T) {
	var lines []string
	for i := range 2450 {
		lines = append(lines, strconv.Itoa(1000+i*7919%9000)+"\n")
	}
	in := strings.Join(lines, "")
	slices.Sort(lines)
	for _, l := range []api.Limits{lim(1, 4, 4), lim(3, 4, 9), lim(8, 4, 30), lim(64, 64, 64), lim(512, 60, 1000), lim(100, 60, 2000), lim(100, 60, 3000), lim(100, 60, 4000), lim(100, 60, 5000), lim(100, 60, 6500), lim(100, 60, 8000)} {
		j := job(in, "sort")
		j.Lim = l
		comes(t, j, strings.Join(lines, ""), "", 0)
	}
}

// A spill file that is gone, or has become a directory, when it is to be read.
func TestSpillFilesThatCannotBeRead(t *testing.T) {
	for _, c := range []struct {
		spoil func(r *rig)
		errs  string
	}{
		{func(r *rig) { r.k.Tree().Remove("", ".sort0", false) }, "sort: .sort0: no such file\n"},
		{func(r *rig) {
			r.k.Tree().Remove("", ".sort0", false)
			r.k.Tree().Make("", ".sort0", true, 0o755, 0)
			r.k.Tree().Make("", ".sort0/x", true, 0o755, 0)
		}, "sort: .sort0: is a directory\n"},
	} {
		r := newRig(t, tight(falling(20), "sort"))
		m := r.start()
		for !slices.Contains(r.spills(), ".sort1") {
			m.Step()
		}
		c.spoil(r)
		for !m.Step() {
		}
		if said := string(r.k.Said(r.err)); said != c.errs || len(r.k.Said(r.out)) > 0 || m.Status() != 2 {
			t.Errorf("%q, not %q; told %q, %d", said, c.errs, r.k.Said(r.out), m.Status())
		}
		if left := slices.DeleteFunc(r.spills(), func(name string) bool { return name == ".sort0" }); len(left) > 0 {
			t.Errorf("%q are left", left)
		}
	}
}

// A spill file that can't be read while lines are told: what was told is a beginning, and nothing more is.
func TestSpillFilesThatFailWhileLinesAreTold(t *testing.T) {
	j := tight(falling(20), "sort")
	out := turned(falling(20))
	for n := 1; n < 20; n++ {
		r := newRig(t, j)
		m := r.start()
		for len(r.k.Said(r.out)) < 3*n {
			m.Step()
		}
		bad := j
		bad.Faults = faults(strings.Repeat(".", transfers(t, j, m.Steps())) + "e") // the next one is a Read
		got := run(t, bad)
		if string(got.Out) != out[:3*n] || !saidOfSpill.Match(got.Err) || got.Status != 2 || !areSame(got.Nodes, dumped(t, j.Nodes)) {
			t.Errorf("behind %d lines: %v", n, got)
		}
	}
}

// saidOfSpill is a line about a spill file.
var saidOfSpill = regexp.MustCompile(`^sort: \.sort\d+: [a-z/ ]+\n$`)

// transfers is how many of a job's first steps are transfers: faults that do nothing tell it.
func transfers(t *testing.T, j api.Job, steps int) int {
	t.Helper()
	j.Faults = make([]api.Fault, 10000)
	r := newRig(t, j)
	m := r.start()
	for range steps {
		m.Step()
	}
	return r.k.Used()
}

// A process that is killed while it tells leaves no spill file.
func TestKilled(t *testing.T) {
	j := tight(falling(20), "sort")
	for n := range 3 {
		r := newRig(t, j)
		m := r.start()
		for len(r.k.Said(r.out)) < 3*n {
			m.Step()
		}
		m.Kill()
		if !m.Done() || m.Status() != 137 || m.Held() != 0 || len(r.p.Table().Fds()) != 0 {
			t.Errorf("%v, %d, %d held, %v", m.Done(), m.Status(), m.Held(), r.p.Table().Fds())
		}
		if n > 0 && len(r.spills()) > 0 {
			t.Errorf("behind %d lines: %q are left", n, r.spills())
		}
	}
}

// P13.5, of what is easily told: nothing is spilt.
func TestSteps(t *testing.T) {
	for _, c := range []struct {
		in, args, signs string
		steps           int
	}{
		{"", "sort", "", 1},                     // a Read
		{"b\na\n", "sort", "", 4},               // two Reads, two Writes
		{"b\na\n", "sort", "iii", 7},            // and the faults
		{"b\na\n", "sort", "1", 5},              //
		{"b\na\n", "sort -o z", "", 5},          // and an Open
		{"b\na\n", "sort -c", "", 2},            // a Read and what is said
		{"b\na\n", "sort -C", "", 1},            //
		{"a\nb\n", "sort -c", "", 2},            //
		{"b\na\n", "sort e", "", 3},             // Open, Read, Close
		{"b\na\n", "sort x", "", 2},             // Open, and what is said
		{"b\na\n", "sort -x", "", 1},            //
		{"b\na\n", "sort e x -", "", 3 + 2 + 4}, //
	} {
		if r := run(t, faulty(c.in, c.args, c.signs)); r.Steps != c.steps {
			t.Errorf("%s, In %q, faults %q: %d steps, not %d", c.args, c.in, c.signs, r.Steps, c.steps)
		}
	}
}

// P13.5: lines and limits of the least kind, of which there are the most steps.
func TestStepsOfTheLeastLimits(t *testing.T) {
	for _, in := range []string{strings.Repeat("\n", 3000), strings.Repeat("x\n", 2000), strings.Repeat("x\n\n", 2000), strings.Repeat("\nx", 2000)} {
		for _, args := range []string{"sort", "sort -u", "sort -o f", "sort -uo f", "sort -c"} {
			for _, signs := range []string{"", strings.Repeat("i", 5000), strings.Repeat("i1", 3000)} {
				j := job(in, args)
				j.Lim = lim(1, 1, 1)
				j.Faults = faults(signs)
				r, _ := sortkit.Run(j)
				within(t, j, r)
				if r.Status == 2 {
					t.Errorf("%s: said %q", args, r.Err)
				}
			}
		}
	}
}
