package grep_test

import (
	"strings"
	"testing"
)

// P17.1: what patterns a list and a file are.

func TestLists(t *testing.T) {
	const in = "a\nb\n\nab\n"
	const all = in
	for _, c := range []struct{ args, out string }{
		{"grep a\nb", "a\nb\nab\n"},
		{"grep b\na", "a\nb\nab\n"},
		{"grep x\na\ny", "a\nab\n"},
		{"grep x\ny\nb", "b\nab\n"},
		{"grep a\na", "a\nab\n"},
		// A line feed at the beginning, at the end, two together: a pattern without bytes stands everywhere.
		{"grep ", all},
		{"grep \n", all},
		{"grep \n\n", all},
		{"grep \na", all},
		{"grep a\n", all},
		{"grep a\n\nb", all},
		{"grep x\n", all},
		{"grep \nx", all},
		{"grep x\n\ny", all},
		{"grep -x ", "\n"},
		{"grep -x \n", "\n"},
		{"grep -x \n\n", "\n"},
		{"grep -x \na", "a\n\n"},
		{"grep -x a\n", "a\n\n"},
		{"grep -x a\n\nb", "a\nb\n\n"},
		{"grep -v ", ""},
		{"grep -vx ", "a\nb\nab\n"},
		{"grep -vx a\n", "b\nab\n"},
		{"grep -c ", "4\n"},
		{"grep -n ", "1:a\n2:b\n3:\n4:ab\n"},
		// The same with -e, in which there may be some too.
		{"grep -e ", all},
		{"grep -xe ", "\n"},
		{"grep -xe \n", "\n"},
		{"grep -x -e a\n -e ab", "a\n\nab\n"},
		{"grep -x -e  -e b", "b\n\n"},
		{"grep -x -e x\nab -e b\ny", "b\nab\n"},
		{"grep -x -e x\ny -e z", ""},
		// Carriage returns, and other signs, part nothing.
		{"grep a\r", ""},
		{"grep a\x00b", ""},
	} {
		tells(t, in, c.args, c.out)
	}
	tells(t, "a\nb\r\n", "grep -v a\r", "a\nb\r\n")
	tells(t, "a\na\x00b\nb\n", "grep a\x00b", "a\x00b\n")
	tells(t, "a b\nb\n", "grep b\n", "a b\nb\n")
	comes(t, jobOf("a b\nab\nb\n", "grep", "a b\nx"), "a b\n", "", 0)
}

// The patterns of a file are its lines.
func TestFilesOfPatterns(t *testing.T) {
	for _, c := range []struct{ data, out, whole string }{
		{"", "", ""}, // no pattern: no line is selected
		{"\n", "a\nb\n\nab\n", "\n"},
		{"\n\n", "a\nb\n\nab\n", "\n"},
		{"a", "a\nab\n", "a\n"},
		{"a\n", "a\nab\n", "a\n"},
		{"a\nb", "a\nb\nab\n", "a\nb\n"},
		{"a\nb\n", "a\nb\nab\n", "a\nb\n"},
		{"\na", "a\nb\n\nab\n", "a\n\n"},
		{"\nab\n", "a\nb\n\nab\n", "\nab\n"},
		{"ab\n\n", "a\nb\n\nab\n", "\nab\n"},
		{"x\n\ny", "a\nb\n\nab\n", "\n"},
		{"x\nab", "ab\n", "ab\n"},
		{"x", "", ""},
		{strings.Repeat("x\n", 100) + "b", "b\nab\n", "b\n"},
		{"12345678\nb", "b\nab\n", "b\n"}, // a line of Line bytes
	} {
		j := job("a\nb\n\nab\n", "grep -f p")
		j.Nodes = append(j.Nodes, file("/p", c.data))
		status := 0
		if c.out == "" {
			status = 1
		}
		anyhow(t, j, c.out, "", status)
		j.Args = []string{"grep", "-f", "p", "-"}
		anyhow(t, j, c.out, "", status)
		j.Args = []string{"grep", "-x", "-F", "-f", "p"}
		anyhow(t, j, c.whole, "", status)
		j.Args = []string{"grep", "-fp", "-x", "-e", "x"}
		anyhow(t, j, c.whole, "", status)
	}
	// Without a pattern -v selects each line.
	for _, args := range []string{"grep -vf none", "grep -v -f none -f none", "grep -vxf none", "grep -Evf e", "grep -Fixvf none"} {
		tells(t, "a\n\nb\n", args, "a\n\nb\n")
	}
	for _, args := range []string{"grep -f none", "grep -xf none", "grep -if none -f e", "grep -Ff none f", "grep -Ef none f h"} {
		tells(t, "a\n\nb\n", args, "")
	}
	anyhow(t, job("q\n", "grep -cf none f h"), "f:0\nh:0\n", "", 1)
}

// The descriptor 0 as a FILE; what was read of it once is not read again.
func TestPatternsOfStandardIn(t *testing.T) {
	for _, c := range []struct{ in, args, out string }{
		{"a\nB", "grep -f - f h", "f:a 1\nf:ab 3\nh:B\n"},
		{"a\nB\n", "grep -nf- f h", "f:1:a 1\nf:3:ab 3\nh:2:B\n"},
		{"x\n", "grep -f - -e b h", "x\nb\n"},
		{"\n", "grep -xf - h", "\n"},
		{"", "grep -f - h", ""},
		{"", "grep -vf - h", "x\nB\n\nb\n"},
		{"a\n", "grep -f - -", ""},
		{"a\n", "grep -f -", ""},
		{"a\n", "grep -f - - f", "f:a 1\nf:ab 3\n"},
		{"a\n", "grep -f - -f - f", "a 1\nab 3\n"},
	} {
		tells(t, c.in, c.args, c.out)
	}
	j := job("q\n", "grep -f ./- f")
	j.Nodes = append(j.Nodes, file("/-", "b\n")) // a file that is called so
	comes(t, j, "b 2\nab 3\n", "", 0)
}

// A FILE that fails: nothing else is done, also no other one is opened; it is said, -s or not.
func TestFilesOfPatternsThatFail(t *testing.T) {
	for _, s := range []string{"", "s"} {
		for _, c := range []struct{ args, said string }{
			{"-f x", "x: no such file"},
			{"-f x f", "x: no such file"},
			{"-f  f", "no such file"},
			{"-f ab/x f", "ab/x: not a directory"},
			{"-f d f", "d: is a directory"},
			{"-f l f", "l: line too long"},
			{"-f k f", "k: line too long"},
			{"-e a -f x f", "x: no such file"},
			{"-f ab -f x f", "x: no such file"},
			{"-f x -e a f", "x: no such file"},
			{"-f x -f d f", "x: no such file"},
			{"-f d -f x -f l f", "d: is a directory"},
			{"-f k -f x f x", "k: line too long"},
			{"-f l d", "l: line too long"},
			{"-q -f x f", "x: no such file"},
			{"-q -e a -f k f", "k: line too long"},
			{"-c -f x f h", "x: no such file"},
			{"-v -f x f", "x: no such file"},
			{"-Ff k f", "k: line too long"},
			// Beside patterns that may not be, ahead of them and behind.
			{"-e [ -f x f", "x: no such file"},
			{"-f x -e [ f", "x: no such file"},
			{"-f wrong -f d f", "d: is a directory"},
			{"-f d -f wrong f", "d: is a directory"},
			{"-e [ -f wrong -f l f", "l: line too long"},
			{"-e [ -f k -e [ f", "k: line too long"},
		} {
			j := job("a\n", "grep -n"+s+" "+c.args)
			anyhow(t, j, "", "grep: "+c.said+"\n", 2)
		}
	}
	// One whose line behind a pattern that may not be is too long.
	j := job("a\n", "grep -f p f")
	j.Nodes = append(j.Nodes, file("/p", "[\n123456789\n"))
	anyhow(t, j, "", "grep: p: line too long\n", 2)
	j.Nodes[len(j.Nodes)-1].Data = []byte("[\n12345678\n")
	anyhow(t, j, "", "grep: [: bad regular expression\n", 2)
	anyhow(t, job("123456789\n", "grep -f - f"), "", "grep: -: line too long\n", 2)
}

// A FILE whose Read fails. Buf is 4: /ab is one Read, /wrong are two, and another one finds the end.
func TestFilesOfPatternsThatCanNotBeRead(t *testing.T) {
	for _, s := range []string{"", "-s "} {
		for _, c := range []struct{ args, signs, said string }{
			{"-f ab f", "e", "ab: input/output error"},
			{"-f ab f", "ie", "ab: input/output error"},
			{"-f ab f", ".e", "ab: input/output error"},
			{"-f ab f", "1.ie", "ab: input/output error"},
			{"-f - f", ".e", "-: input/output error"},
			{"-f ab -f cut f", "..e", "cut: input/output error"},
			{"-e a -f cut f", ".e", "cut: input/output error"},
			{"-q -e a -f cut f", ".e", "cut: input/output error"},
			{"-f wrong f", "e", "wrong: input/output error"},
			{"-f wrong f", ".e", "wrong: input/output error"},
			{"-f wrong f", "..e", "wrong: input/output error"},
			{"-f wrong -f ab f", "...e", "ab: input/output error"},
			{"-e [ -f ab f", ".e", "ab: input/output error"},
			{"-f ab -f x f", ".e", "ab: input/output error"},
		} {
			comes(t, faulty("a\nb\nc\n", "grep "+s+c.args, c.signs), "", "grep: "+c.said+"\n", 2)
		}
	}
	// A Read does not mind what befalls Writes.
	comes(t, faulty("", "grep -f ab f", "ss"), "a 1\nb 2\nab 3\n", "", 0)
	comes(t, faulty("", "grep -f ab f", "es"), "", "", 2) // what can't be said
}

// P17.2

func TestPatterns(t *testing.T) {
	const in = "ab\na.b\naab\nAB\na|b\n\n*\n(a)\n"
	for _, c := range []struct{ args, out string }{
		{"grep ab", "ab\naab\n"},
		{"grep a.b", "a.b\naab\na|b\n"},
		{"grep a*b", "ab\na.b\naab\na|b\n"},
		{"grep ^a*b", "ab\naab\n"},
		{"grep b$", "ab\na.b\naab\na|b\n"},
		{"grep *", "*\n"},
		{"grep a|b", "a|b\n"},
		{"grep (a)", "(a)\n"},
		{"grep \\(a\\)b", "ab\naab\n"},
		{"grep a\\{2\\}", "aab\n"},
		{"grep ^$", "\n"},
		{"grep [.|]", "a.b\na|b\n"},
		{"grep -E a|b", "ab\na.b\naab\na|b\n(a)\n"},
		{"grep -E a+b", "ab\naab\n"},
		{"grep -E (a)b", "ab\naab\n"},
		{"grep -E a{2}", "aab\n"},
		{"grep -E \\(a\\)", "(a)\n"},
		{"grep -E ^(\\*|A)", "AB\n*\n"},
		{"grep -E ^$", "\n"},
		{"grep -F a.b", "a.b\n"},
		{"grep -F a|b", "a|b\n"},
		{"grep -F *", "*\n"},
		{"grep -F (a)", "(a)\n"},
		{"grep -F ^a", ""},
		{"grep -F \\*", ""},
		{"grep -F [", ""},
		{"grep -i ab", "ab\naab\nAB\n"},
		{"grep -i AB", "ab\naab\nAB\n"},
		{"grep -i A.B", "a.b\naab\na|b\n"},
		{"grep -i [A]b", "ab\naab\nAB\n"},
		{"grep -x ab", "ab\n"},
		{"grep -x a*b", "ab\naab\n"},
		{"grep -x .", "*\n"},
		{"grep -x a", ""},
		{"grep -x ^ab$", "ab\n"},
		{"grep -x a\\{0,2\\}", "\n"},
		{"grep -x x*", "\n"},
		// Each two of them.
		{"grep -Ei A+B", "ab\naab\nAB\n"},
		{"grep -Ei (A|x)\\|B", "a|b\n"},
		{"grep -Ex a+b", "ab\naab\n"},
		{"grep -Ex a|ab", "ab\n"},
		{"grep -Ex ab|a", "ab\n"},
		{"grep -Ex a|b", ""},
		{"grep -Fi AB", "ab\naab\nAB\n"},
		{"grep -Fi A.B", "a.b\n"},
		{"grep -Fi A|B", "a|b\n"},
		{"grep -Fx ab", "ab\n"},
		{"grep -Fx a", ""},
		{"grep -Fx *", "*\n"},
		{"grep -ix AB", "ab\nAB\n"},
		{"grep -ix A.B", "a.b\naab\na|b\n"},
		{"grep -Eix A{2}b|\\(A\\)", "aab\n(a)\n"},
		{"grep -Fix A.B\nAB", "ab\na.b\nAB\n"},
		// One of several is enough; with -x one has to be the whole line.
		{"grep -e x -e AB", "AB\n"},
		{"grep -F -e [ -e *", "*\n"},
		{"grep -x -e a -e b", ""},
		{"grep -x -e a -e ab -e AB", "ab\nAB\n"},
		{"grep -x -e a* -e *b*", "\n*\n"}, // a first star is one
		{"grep -Ex -e a+ -e a+b -e .", "ab\naab\n*\n"},
		// Without bytes, in each case.
		{"grep -E ", in},
		{"grep -F ", in},
		{"grep -i ", in},
		{"grep -Ex ", "\n"},
		{"grep -Fx ", "\n"},
		{"grep -ix ", "\n"},
		{"grep -Eix ", "\n"},
		{"grep -Fix ", "\n"},
		{"grep -Ei ", in},
		{"grep -Fi ", in},
		{"grep -E x\n", in},
		{"grep -E -e x -e  -e y", in},
		{"grep -Ex -e AB -e ", "AB\n\n"},
		{"grep -Fx \nAB\n", "AB\n\n"},
		{"grep -Ef blank", in},
		{"grep -Exf blank", "\n"},
		{"grep -Fxf blank -e AB", "AB\n\n"},
		{"grep -Exif blank -e ab", "ab\nAB\n\n"},
	} {
		tells(t, in, c.args, c.out)
	}
}

// One that may not be is said, the first one; nothing else is done.
func TestPatternsThatMayNotBe(t *testing.T) {
	for _, c := range []struct{ args, said string }{
		{"grep [", "[: bad regular expression"},
		{"grep [ x", "[: bad regular expression"},
		{"grep a\\", `a\: bad regular expression`},
		{"grep \\(", `\(: bad regular expression`},
		{"grep a** f", "a**: bad regular expression"},
		{"grep -- -[", "-[: bad regular expression"},
		{"grep -E *", "*: bad regular expression"},
		{"grep -E (", "(: bad regular expression"},
		{"grep -E a|", "a|: bad regular expression"},
		{"grep -E a{2,1}", "a{2,1}: bad regular expression"},
		{"grep -E ()", "(): bad regular expression"},
		{"grep -i [b-A]", "[b-A]: bad regular expression"},
		{"grep -x [", "[: bad regular expression"},
		{"grep -n [", "[: bad regular expression"},
		{"grep -v [", "[: bad regular expression"},
		{"grep -c [ f h", "[: bad regular expression"},
		{"grep -l [", "[: bad regular expression"},
		{"grep -q [", "[: bad regular expression"},
		{"grep -s [ x", "[: bad regular expression"}, // no input has failed
		{"grep -qs a\n[", "[: bad regular expression"},
		// Of several.
		{"grep a\n[\nb", "[: bad regular expression"},
		{"grep a\n\\(\n[", `\(: bad regular expression`},
		{"grep \n[", "[: bad regular expression"},
		{"grep -e a -e [ -e \\(", "[: bad regular expression"},
		{"grep -E -e a -e * -e +", "*: bad regular expression"},
		{"grep -e a -f wrong -e \\(", "[: bad regular expression"},
		{"grep -e \\( -f wrong", `\(: bad regular expression`},
		{"grep -f wrong -e \\(", "[: bad regular expression"},
		{"grep -f ab -e a\n[[ f", "[[: bad regular expression"},
		{"grep -Ef none -e (", "(: bad regular expression"},
		{"grep -f - f", "[: bad regular expression"},
		// Too great.
		{"grep -E (a{255}){40}", "(a{255}){40}: too many"},
		{"grep \\(a\\{255\\}\\)\\{40\\}", `\(a\{255\}\)\{40\}: too many`},
		{"grep -E -e a -e (a{255}){40} -e (", "(a{255}){40}: too many"},
		{"grep -E -e a -e ( -e (a{255}){40}", "(: bad regular expression"},
		{"grep -Ex (a{255}){40} f", "(a{255}){40}: too many"},
	} {
		anyhow(t, job("a\n[", c.args), "", "grep: "+c.said+"\n", 2)
	}
	// Nothing is read of the inputs, nor are they opened.
	for _, args := range []string{"grep [ f h", "grep -e a -e [", "grep -l [ f"} {
		if r := comes(t, job("a\n", args), "", "grep: [: bad regular expression\n", 2); r.Steps != 1 {
			t.Errorf("%s: %d steps", args, r.Steps)
		}
	}
	comes(t, faulty("a\n", "grep [", "s"), "", "", 2) // what can't be said
	// Not with -F, and not as other expressions.
	tells(t, "a[\n", "grep -F [", "a[\n")
	tells(t, "a[\n*\n", "grep -F -e [ -e *", "a[\n*\n")
	tells(t, "a|\n", "grep a|", "a|\n")
	tells(t, "(\n", "grep -E \\(", "(\n")
	tells(t, "){40}\n", "grep -F ){40}", "){40}\n")
}

// The sizes of several patterns together have no limit.
func TestManyGreatPatterns(t *testing.T) {
	args := []string{"grep", "-E"}
	for range 4 {
		args = append(args, "-e", "(b{255}){39}", "-e", "x")
	}
	long := strings.Repeat("b", 39*255)
	j := jobOf("bbb\nx\n"+long+"\n", args...)
	j.Lim = lim(4096, 10000)
	comes(t, j, "x\n"+long+"\n", "", 0)
}
