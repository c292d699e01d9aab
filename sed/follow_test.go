package sed_test

import (
	"reflect"
	"slices"
	"strings"
	"testing"

	"toolchest/api"
)

func TestAgainstAModel(t *testing.T) {
	c := chanceOf(1)
	statuses, said, told := map[int]int{}, map[string]int{}, 0
	for range 6000 {
		j := c.job()
		for range 2 {
			r := follows(t, j)
			statuses[r.Status]++
			if len(r.Out) > 0 {
				told++
			}
			for line := range strings.Lines(string(r.Err)) {
				said[line]++
			}
			j.Faults = c.faults(allSigns, 60)
		}
	}
	if min(statuses[0], statuses[1]) < 3000 || told < 3500 || min(said[badScript], said[tooMany], said[badRegex]) < 10 {
		t.Errorf("the statuses %v, %d have told something, %v was said", statuses, told, said)
	}
}

// R1: whatever it is given, it ends by itself.
func TestAnyArguments(t *testing.T) {
	c := chanceOf(6)
	pieces := []string{"-", "-", "e", "f", "n", "p", "p", "d", "D", "s/", "/", "y", "N", "H", "x", "G", "q", "=", "a\\\n", "c", "b", "t", ":", "{", "}", "1", ",", "$", "!", "*", "\\", "[", "^", ".", "\n", ";", "\xff", "\x00", "#"}
	statuses := map[int]int{}
	for range 20000 {
		args := []string{"sed"}
		for range 1 + c.Intn(4) {
			args = append(args, c.some(5, pieces...))
		}
		j := jobOf(c.some(30, pieces...), args...)
		j.Lim = lim(1+c.Intn(7), 1+c.Intn(40))
		j.Faults = c.faults(allSigns, 10)
		r := run(t, j)
		if r.Status < 0 || r.Status > 1 { // a panic would have killed it
			t.Errorf("%q, In %q: %d", args, j.In, r.Status)
			continue
		}
		within(t, j, r)
		statuses[r.Status]++
	}
	if min(statuses[0], statuses[1]) < 300 {
		t.Errorf("the statuses are %v", statuses)
	}
}

// Mild faults change nothing but how many steps it takes.
func TestMildFaults(t *testing.T) {
	c := chanceOf(2)
	for range 5000 {
		j := c.job()
		want := run(t, j)
		j.Faults = c.faults(mildSigns, 80)
		comesLike(t, j, want)
	}
}

// comesLike fails, if a job comes to something else than it came to without faults, or needs more steps than that and the faults.
func comesLike(t *testing.T, j api.Job, want api.Result) {
	t.Helper()
	if r := comes(t, j, string(want.Out), string(want.Err), want.Status); r.Steps > want.Steps+r.Used {
		t.Errorf("%q, In %q, Lim %v, faults %q: %d steps, %d without faults", j.Args, j.In, j.Lim, signsOf(j.Faults), r.Steps, want.Steps)
	}
}

// A job that is stepped comes to what it comes to when it is run (R5: whoever goes through it, and how often).
func TestSteppedJobs(t *testing.T) {
	c := chanceOf(3)
	for range 2500 {
		j := c.job()
		j.Faults = c.faults(allSigns, 40)
		want := run(t, j)
		if want.Steps > 200 {
			continue
		}
		if got := newRig(t, j).result(); !reflect.DeepEqual(got, want) {
			t.Errorf("%q, In %q, Lim %v, faults %q: %v, not %v", j.Args, j.In, j.Lim, signsOf(j.Faults), got, want)
		}
		if again := run(t, j); !reflect.DeepEqual(again, want) {
			t.Errorf("%q, In %q, Lim %v, faults %q: %v, not %v", j.Args, j.In, j.Lim, signsOf(j.Faults), again, want)
		}
	}
}

// commands are of every kind.
func commands() [][]string {
	var l [][]string
	for _, args := range []string{
		"sed p", "sed -n p", "sed 2d", "sed -n $p", "sed =", "sed -n $=", "sed n;d", "sed N;P;D", "sed $!N;s/\\n/-/", "sed G;h;$!d", "sed H;x;s/\\n/,/g", "sed 2q", "sed y/ab/ba/", "sed s/a/&&/gp", "sed 1,/b/s/^/x/", "sed a\\\none", "sed i\\\none", "sed 2,3c\\\none", "sed -e a\\ -e one -e n", "sed -e a\\ -e one -e N", "sed -e $!N -e a\\ -e one -e P;D", "sed :x;s/a/b/;tx", "sed /b/!bx;s//y/;:x",
		"sed p f h", "sed -n $p f e x", "sed = f - h", "sed -n $p - e e", "sed N;N f - k", "sed n;d k f", "sed 4q f h x", "sed d l x -", "sed -n $= d f k",
		"sed -f cut f", "sed -n -f double -f cut", "sed -f - h", "sed -f none", "sed -f text -e p", "sed -f x f", "sed -f l", "sed -f wrong f",
		"sed", "sed -x", "sed z", "sed s/[//", "sed :x;bx", "sed s/.*/&&/;/^.\\{200\\}/!{s//&/;D\n};:x;s/.*/&&/;bx",
	} {
		l = append(l, strings.Split(args, " "))
	}
	return l
}

const someLines = "a 1\nb\n\nab 2\nB\nb"

// One mild fault at each transfer in turn, and one at every transfer.
func TestMildFaultsAtEveryTransfer(t *testing.T) {
	for _, args := range commands() {
		for buf := 1; buf < 5; buf++ {
			j := jobOf(someLines, args...)
			j.Lim.Buf = buf
			want := follows(t, j)
			var scripts []string
			for n := range want.Steps {
				at := strings.Repeat(".", n)
				scripts = append(scripts, at+"i", at+"1", at+"iii2")
			}
			for _, signs := range append(scripts, strings.Repeat("i", 500), strings.Repeat("1", 500), strings.Repeat("i0i2", 300)) {
				j.Faults = faults(signs)
				comesLike(t, j, want)
			}
		}
	}
}

// A transfer that fails, each in turn. A Write: what was told is a beginning of what is told without faults, the status is not 0, and one line says it. A Read: it is as if the input ended there, so what the model tells; where a script tells each line by itself, of a beginning of the input.
func TestFailuresAtEveryTransfer(t *testing.T) {
	for _, args := range commands() {
		for buf := 1; buf < 5; buf++ {
			pure := jobOf(someLines, args...)
			pure.Lim.Buf = buf
			want := run(t, pure)
			for n := range want.Steps {
				for _, sign := range []string{"e", "s", "p", "1e", "ie", "ee"} {
					j := pure
					j.Faults = faults(strings.Repeat(".", n) + sign)
					got := follows(t, j)
					if sign == "s" || sign == "p" {
						isABeginning(t, j, got, want)
					}
				}
			}
		}
	}
	for _, script := range []string{"p", "=", "2d", "s/b/&&/g", "y/b/c/", "a\\\none", "n;d", "/b/,/B/d"} {
		for buf := 1; buf < 5; buf++ {
			pure := jobOf(someLines, "sed", script)
			pure.Lim.Buf = buf
			for n := range run(t, pure).Steps {
				j := pure
				j.Faults = faults(strings.Repeat(".", n) + "e")
				got := run(t, j)
				if string(got.Err) == inWrong && !isOfABeginning(t, pure, got) {
					t.Errorf("%s, Buf %d, faults %q: told %q, of no beginning of the input", script, buf, signsOf(j.Faults), got.Out)
				}
			}
		}
	}
}

// isABeginning fails, if what was told is no beginning of what should have been, or if it is not all, and that was not said.
func isABeginning(t *testing.T, j api.Job, got, want api.Result) {
	t.Helper()
	if string(got.Out) == string(want.Out) {
		return
	}
	if !strings.HasPrefix(string(want.Out), string(got.Out)) || !strings.Contains(string(got.Err), "sed: standard output: ") || got.Status != 1 {
		t.Errorf("%q, Lim %v, faults %q: told %q, said %q, %d; without faults %q", j.Args, j.Lim, signsOf(j.Faults), got.Out, got.Err, got.Status, want.Out)
	}
}

// isOfABeginning tells whether a job tells that of some beginning of what the descriptor 0 says, which ends behind a line.
func isOfABeginning(t *testing.T, j api.Job, got api.Result) bool {
	t.Helper()
	whole := j.In
	for n := range len(whole) + 1 {
		if n > 0 && n < len(whole) && whole[n-1] != '\n' {
			continue
		}
		j.In = whole[:n]
		if string(run(t, j).Out) == string(got.Out) {
			return true
		}
	}
	return false
}

// P18.8: the script without a command tells the inputs' lines, with -n nothing; p with -n the lines; y there and back, too.
func TestLinesAreTold(t *testing.T) {
	c := chanceOf(4)
	for range 300 {
		in := c.text(14)
		lines := in
		if lines != "" && !strings.HasSuffix(lines, "\n") {
			lines += "\n"
		}
		mapped := c.Perm(256)
		var from, to, back strings.Builder
		for b, n := range mapped {
			from.WriteString(quoted(byte(b)))
			to.WriteString(quoted(byte(n)))
		}
		back.WriteString("y/" + to.String() + "/" + from.String() + "/")
		there := "y/" + from.String() + "/" + to.String() + "/"
		for _, args := range [][]string{
			{""}, {"-n", "p"}, {there + ";" + back.String()}, {"-n", there + "\n" + back.String() + ";p"}, {"#"}, {" ;\n"}, {"-e", "", "-e", ""}, {"{}"}, {"-f", "none"},
			{"s/x*//g;x;x"}, {"$!N;P;D"}, {"h;g"}, {"b\nd"}, {"-n", "P"}, {"!d"},
		} {
			j := jobOf(in, append([]string{"sed"}, args...)...)
			j.Lim = lim(1+c.Intn(5), 60)
			j.Faults = c.faults(mildSigns, 40)
			want := lines
			if args[0] == "s/x*//g;x;x" {
				want = strings.ReplaceAll(lines, "x", "")
			}
			comes(t, j, want, "", 0)
		}
		for _, args := range [][]string{{"-n", ""}, {"-n", "#"}, {"#n"}, {"-n", there}, {"d"}, {"-n", "-f", "none"}} {
			comes(t, jobOf(in, append([]string{"sed"}, args...)...), "", "", 0)
		}
	}
}

// quoted is a byte as it stands in a text of y.
func quoted(b byte) string {
	switch b {
	case '\n':
		return `\n`
	case '/', '\\':
		return `\` + string(b)
	}
	return string([]byte{b})
}

// P18.4: what is told of several inputs is what is told of all their lines one behind the other.
func TestInputsAreOne(t *testing.T) {
	c := chanceOf(5)
	for range 3000 {
		script := c.script()
		var all string
		j := jobOf("", "sed", "--", script)
		j.Lim = lim(1+c.Intn(6), 60)
		for n := range 1 + c.Intn(4) {
			s := c.text(5)
			name := string(rune('p' + n))
			j.Nodes = append(j.Nodes, file("/"+name, s))
			j.Args = append(j.Args, name)
			if s != "" && !strings.HasSuffix(s, "\n") {
				s += "\n"
			}
			all += s
		}
		j.Faults = c.faults(mildSigns, 40)
		one := jobOf(all, "sed", "--", script)
		one.Lim = lim(1+c.Intn(6), 60)
		want := run(t, one)
		comes(t, j, string(want.Out), string(want.Err), want.Status)
	}
}

// Inputs of every few bytes, with scripts of each kind.
func TestEveryShortInput(t *testing.T) {
	texts := everyText(5, "a", "b", "\n")
	for _, in := range texts {
		for _, l := range []api.Limits{lim(1, 1), lim(2, 2), lim(3, 6)} {
			for _, args := range []string{"sed =", "sed -n $p", "sed N;P;D", "sed n;s/a*/-/g", "sed H;$!d;x;s/\\nb*/,/2", "sed 2,/b/c\\\none"} {
				j := job(in, args)
				j.Lim = l
				follows(t, j)
			}
		}
	}
	for _, f := range texts[:40] {
		for _, h := range texts[:40] {
			j := job("b\n", "sed -n =;$p;n;h;$!{N;G\n};p f h - f")
			for i, n := range j.Nodes {
				switch n.Path {
				case "/f":
					j.Nodes[i].Data = []byte(f)
				case "/h":
					j.Nodes[i].Data = []byte(h)
				}
			}
			follows(t, j)
		}
	}
}

// Scripts of every few commands.
func TestEveryFewCommands(t *testing.T) {
	some := []string{"p", "$!d", "D", "g", "G", "h", "H", "n", "N", "P", "x", "2q", "=", "a\\\none", "1,2c\\\ntwo", "i\\\nin", "bx", "tx", ":x", "s/a/\\\nb/", "y/b/a/", "/b/!{", "}", "1d"}
	n := 0
	for _, a := range some {
		for _, b := range some {
			for _, c := range some {
				script := strings.Join([]string{a, b, c}, "\n")
				if slices.Contains([]string{a, b}, "bx") && !strings.Contains(script, ":x") {
					continue
				}
				j := jobOf("a\nb\n\na\nb", "sed", script)
				j.Lim = lim(2, 20)
				if r := follows(t, j); r.Status == 0 {
					n++
				}
			}
		}
	}
	if n < 5000 {
		t.Errorf("%d scripts may be", n)
	}
}
