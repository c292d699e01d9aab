package sed_test

import (
	"strings"
	"testing"

	"toolchest/api"
)

// P18.3: options, the script, the inputs.

func TestOptions(t *testing.T) {
	const in = "a\nb\n"
	for _, c := range []struct{ args, out string }{
		{"sed p", "a\na\nb\nb\n"},
		{"sed -n p", "a\nb\n"},
		{"sed -nn p", "a\nb\n"},
		{"sed -n -n p", "a\nb\n"},
		{"sed -n -- p", "a\nb\n"},
		{"sed -- p -", "a\na\nb\nb\n"},
		{"sed p -", "a\na\nb\nb\n"},
		{"sed -e p", "a\na\nb\nb\n"},
		{"sed -ep", "a\na\nb\nb\n"},
		{"sed -e p -", "a\na\nb\nb\n"},
		{"sed -e p --", "a\na\nb\nb\n"},
		{"sed -e p -- -", "a\na\nb\nb\n"},
		{"sed -ne p", "a\nb\n"},
		{"sed -nep", "a\nb\n"},
		{"sed -e p -n", "a\nb\n"},
		{"sed -n -e 1p -n -e $p", "a\nb\n"},
		{"sed -e 1d -e p", "b\nb\n"},
		{"sed -e p -e 1d", "a\nb\nb\n"},
		{"sed -e1d -ep", "b\nb\n"},
		{"sed -f double", "a\na\nb\nb\n"},
		{"sed -fdouble", "a\na\nb\nb\n"},
		{"sed -nfdouble -", "a\nb\n"},
		{"sed -f cut", "B\n"},
		{"sed -f none", in},
		{"sed -f blank", in},
		{"sed -n -f none", ""},
		{"sed -f double -f cut", "a\nb\nB\n"},
		{"sed -f cut -f double", "B\nB\n"},
		{"sed -e p -f cut -e =", "a\nb\n2\nB\n"},
		{"sed -f cut -e p -f double", "B\nB\nB\n"},
		{"sed -f ./double", "a\na\nb\nb\n"},
		{"sed -f none -e p -f none", "a\na\nb\nb\n"},
		{"sed ", in}, // a script without bytes
		{"sed -e ", in},
		{"sed -n ", ""},
		{"sed -e  -e ", in},
	} {
		tells(t, in, c.out, strings.Split(c.args, " ")...)
	}
}

// The parts of a script have a line feed between two: so one may go on in the next one, and a part without bytes is a line.
func TestParts(t *testing.T) {
	for _, c := range []struct {
		out  string
		args []string
	}{
		{"a\none\n", []string{"-e", "a\\", "-e", "one"}},
		{"a\none\ntwo\n", []string{"-e", "a\\", "-e", "one\\", "-e", "two"}},
		{"a\n\n", []string{"-e", "a\\", "-e", ""}},
		{"a\na\n\n", []string{"-e", "a\\", "-e", "", "-e", "p"}},
		{"a\na\n\n", []string{"-e", "a\\", "-f", "none", "-e", "p"}},
		{"a\na\n\n", []string{"-e", "a\\", "-f", "blank", "-e", "p"}},
		{"a\none\n", []string{"-f", "text"}},
		{"a\none\np\n", []string{"-f", "text", "-e", "p"}},
		{"a\na\none\n\n", []string{"-f", "text", "-e", "", "-e", "p"}},
		{"a\na\n", []string{"-e", "{", "-e", "p", "-e", "}"}},
		{"a\na\n", []string{"-e", "{", "-f", "double", "-e", "}"}},
		{"b\n", []string{"-e", "s/a/b/", "-e", "/a/d"}},
		{"a\n", []string{"-e", "bx", "-e", "p", "-e", ":x"}},
		{"a\n", []string{"-e", "#p\\", "-e", "#d"}},
		{"x\ny\n", []string{"-e", "s/a/x\\", "-e", "y/"}},
	} {
		tells(t, "a\n", c.out, append([]string{"sed"}, c.args...)...)
	}
	anyhow(t, job("a\n", "sed -e 1 -e p"), "", badScript, 1)
}

// With -e or -f all operands are inputs; without them the first one is the script.
func TestOperands(t *testing.T) {
	for _, c := range []struct{ args, out string }{
		{"sed 1d f", "b 2\nab 3\n"},
		{"sed p p", "p\np\n"},
		{"sed -e 1d f", "b 2\nab 3\n"},
		{"sed -f cut f", "b 2\naB 3\n"},
		{"sed -n p f - h", "a 1\nb 2\nab 3\n-a\nb-\nx\nB\n\nb\n"},
		{"sed -n $p f h", "b\n"},
		{"sed -- =", "1\n-a\n2\nb-\n"},
		{"sed -n -- -", bad},
		{"sed -", bad},
		{"sed -e - -", bad},
		{"sed -- -n", bad},
		{"sed -e -n", bad},
		{"sed -e -- -", bad},
		{"sed f f", bad},
		{"sed -e p -e -e -", bad},
	} {
		if c.out == bad {
			anyhow(t, job("-a\nb-\n", c.args), "", "sed: bad script\n", 1)
			continue
		}
		j := job("-a\nb-\n", c.args)
		j.Nodes = append(j.Nodes, file("/p", "p"))
		anyhow(t, j, c.out, "", 0)
	}
	// Behind the first operand nothing is an option.
	comes(t, job("a\n", "sed p -n"), "", "sed: -n: no such file\n", 1)
	comes(t, job("a\n", "sed -e p - -n"), "a\na\n", "sed: -n: no such file\n", 1)
	comes(t, job("a\n", "sed p -- -"), "a\na\n", "sed: --: no such file\n", 1)
	comes(t, job("a\n", "sed p -e d"), "", "sed: -e: no such file\nsed: d: is a directory\n", 1)
	j := job("a\n", "sed -n p -- -n ./-")
	j.Nodes = append(j.Nodes, file("/-n", "n\n"), file("/-", "m\n"), file("/--", "-\n"))
	comes(t, j, "-\nn\nm\n", "", 0)
	j.Args = strings.Split("sed -n -e p -- -- -n - ./-", " ")
	comes(t, j, "-\nn\na\nm\n", "", 0)
}

func TestUsage(t *testing.T) {
	for _, args := range []string{
		// No script.
		"sed", "sed -n", "sed -nn", "sed --", "sed -n --",
		// Letters that are none.
		"sed -E p", "sed -r p", "sed -s p", "sed -i p", "sed -z p", "sed -u p", "sed -l p", "sed -l 1 p", "sed -N p", "sed -nx p", "sed -e p -x", "sed --quiet p", "sed -1 p", "sed -a p", "sed -d p", "sed -g p", "sed -V", "sed -h",
		// An argument that is wanted.
		"sed -e", "sed -f", "sed -ne", "sed -nf", "sed -e p -e", "sed -e p -f", "sed -f cut -ne",
		// Ahead of all else that may not be.
		"sed -x -f x", "sed -f x -x", "sed -e [ -x", "sed -f l -e", "sed -x z x",
	} {
		refuses(t, strings.Split(args, " ")...)
	}
	for x := range 256 {
		if letter := string([]byte{byte(x)}); !strings.Contains("nef-", letter) {
			refuses(t, "sed", "-"+letter, "p")
			refuses(t, "sed", "-n"+letter, "p", "f")
			refuses(t, "sed", "-e", "p", "-"+letter)
		}
	}
}

// A FILE of the script that fails is said, and nothing else is done; so is a script that may not be, behind that.
func TestFilesOfScripts(t *testing.T) {
	for _, c := range []struct{ args, errs string }{
		{"sed -f x", noX},
		{"sed -f x f", noX},
		{"sed -f d f", isDir},
		{"sed -f l f", longL},
		{"sed -f k f", longK},
		{"sed -f f/x f", "sed: f/x: not a directory\n"},
		{"sed -f  f", "sed: no such file\n"},
		{"sed -n -e p -f x y", noX},
		{"sed -f double -f x -f y f", noX},
		{"sed -f x -f d -f l", noX},
		{"sed -f l -f x", longL},
		{"sed -e z -f x", noX},
		{"sed -f wrong -f x", noX},
		{"sed -f x -f wrong -e z", noX},
		{"sed -f wrong f", badScript},
		{"sed -f wrong x", badScript},
		{"sed -f double -f wrong", badScript},
		{"sed -e p -e z f x", badScript},
		{"sed -f h -", badScript},
		{"sed z x", badScript},
		{"sed {", badScript},
		{"sed /[/p x", badRegex},
		{"sed -e p -e s/[// f", badRegex},
		{"sed -f - f", badScript},
		{`sed /\(a\{255\}\)\{40\}/d`, "sed: too many\n"},
	} {
		for buf := 1; buf < 12; buf++ {
			j := job("z\n", c.args)
			j.Lim.Buf = buf
			comes(t, j, "", c.errs, 1)
			j.Faults = faults(strings.Repeat("2i1", 40))
			comes(t, j, "", c.errs, 1)
		}
	}
	// Inputs are not opened, and the descriptor 0 is not read, where the script fails.
	for _, args := range []string{"sed z", "sed -f x", "sed -f wrong - f"} {
		r := newRig(t, job("left\n", args))
		r.result()
		if s := r.left(); s != "left\n" {
			t.Errorf("%s: %q is left", args, s)
		}
	}
}

// `-` as a FILE is the descriptor 0, of which nothing is left to be an input.
func TestScriptOfStandardIn(t *testing.T) {
	for _, c := range []struct{ in, args, out string }{
		{"1d\n$p\n", "sed -f - f", "b 2\nab 3\nab 3\n"},
		{"1d\n$p", "sed -nf - f", "ab 3\n"},
		{"1d\n", "sed -f -", ""},
		{"p\n", "sed -f - - f", "a 1\na 1\nb 2\nb 2\nab 3\nab 3\n"},
		{"p\n", "sed -f - -e d -", ""},
		{"", "sed -f - h", "x\nB\n\nb\n"},
		{"p\n", "sed -f - -f - e", ""},
		{"#n\n$p", "sed -f - h", "b\n"},
		{"#n", "sed -f - h", ""},
	} {
		anyhow(t, job(c.in, c.args), c.out, "", 0)
	}
	j := job("12345678\n", "sed -f - f")
	anyhow(t, j, "", badScript, 1)
	j.In = []byte("123456789\n")
	anyhow(t, j, "", "sed: -: line too long\n", 1)
	j.In, j.Faults = []byte("p\n"), faults("e")
	comes(t, j, "", "sed: -: input/output error\n", 1)
	j.In, j.Faults = []byte("p\n"), faults(".e")
	comes(t, j, "", "sed: -: input/output error\n", 1)
}

// A script may be of any size, as long as the lines of its FILES are not too long.
func TestLongScripts(t *testing.T) {
	j := jobOf("a\n", "sed", "-n", "-f", "s")
	j.Nodes = append(j.Nodes, file("/s", strings.Repeat("p\n", 3000)))
	comes(t, j, strings.Repeat("a\n", 3000), "", 0)
	j = jobOf("a\n", "sed", strings.Repeat("s/a/b/;s/b/a/;", 3000)+"s/a/"+strings.Repeat("x", 5000)+"/")
	comes(t, j, strings.Repeat("x", 5000)+"\n", "", 0)
	j = jobOf("a\n", "sed", strings.Repeat("{", 30000)+"s/$/x/"+strings.Repeat("}", 30000))
	comes(t, j, "ax\n", "", 0)
	var args []string
	for range 2000 {
		args = append(args, "-e", "s/$/x/")
	}
	comes(t, jobOf("\n", append([]string{"sed"}, args...)...), strings.Repeat("x", 2000)+"\n", "", 0)
	var labels strings.Builder
	for n := range 900 {
		labels.WriteString("b" + strings.Repeat("x", n+1) + "\nd\n:" + strings.Repeat("x", n+1) + "\n")
	}
	comes(t, jobOf("a\n", "sed", labels.String()), "a\n", "", 0)
	j = jobOf("a\n", "sed", labels.String()+labels.String())
	comes(t, j, "", badScript, 1)
	j.Lim = api.Limits{Buf: 1, Line: 1, Run: 1}
	comes(t, j, "", badScript, 1)
}
