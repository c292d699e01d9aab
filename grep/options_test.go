package grep_test

import (
	"strings"
	"testing"
)

// P17.1: options, the list, the inputs.

func TestOptions(t *testing.T) {
	const in = "a\nb\nab\nB\n"
	for _, c := range []struct{ args, out string }{
		{"grep a", "a\nab\n"},
		{"grep a -", "a\nab\n"},
		{"grep -e a", "a\nab\n"},
		{"grep -ea", "a\nab\n"},
		{"grep -e a -", "a\nab\n"},
		{"grep -e a --", "a\nab\n"},
		{"grep -e a -- -", "a\nab\n"},
		{"grep -- a -", "a\nab\n"},
		// In groups, and each alone.
		{"grep -inv a", "2:b\n4:B\n"},
		{"grep -i -n -v a", "2:b\n4:B\n"},
		{"grep -vine a", "2:b\n4:B\n"},
		{"grep -vinea -", "2:b\n4:B\n"},
		{"grep -Exi b", "b\nB\n"},
		{"grep -x -i -E b", "b\nB\n"},
		{"grep -Fnsx -e b", "2:b\n"},
		{"grep -civ a", "2\n"},
		// One of them more than once is the same.
		{"grep -nn b", "2:b\n3:ab\n"},
		{"grep -vv a", "b\nB\n"},
		{"grep -i -i -s -s b", "b\nab\nB\n"},
		{"grep -xxx b", "b\n"},
		{"grep -EE a|B", "a\nab\nB\n"},
		{"grep -E -n -E a|B", "1:a\n3:ab\n4:B\n"},
		{"grep -F -F a", "a\nab\n"},
		{"grep -cc a", "2\n"},
		{"grep -c -n -c a", "2\n"},
		{"grep -l -l a", "(standard input)\n"},
		// -e several times, and the last one as the argument of the next one.
		{"grep -e a -e B", "a\nab\nB\n"},
		{"grep -ea -eB", "a\nab\nB\n"},
		{"grep -e x -n -e a -e y", "1:a\n3:ab\n"},
		{"grep -e -e -e a", "a\nab\n"},
		{"grep -e -- -e a", "a\nab\n"},
		{"grep -e -n", ""},
		// -f, and both in turn.
		{"grep -f ab", "a\nb\nab\n"},
		{"grep -fab", "a\nb\nab\n"},
		{"grep -f ab -f cut -x", "a\nb\n"},
		{"grep -e B -f cut -x", "b\nB\n"},
		{"grep -f none -e B", "B\n"},
		{"grep -ixfab", "a\nb\nB\n"},
		{"grep -nfcut -eB -", "2:b\n3:ab\n4:B\n"},
		{"grep -xf cut -ef -fab", "a\nb\n"}, // `f`, and the files
	} {
		tells(t, in, c.args, c.out)
	}
	comes(t, job(in, "grep -qq a"), "", "", 0)
}

// With -e or -f all operands are inputs; without them the first one is the list.
func TestOperands(t *testing.T) {
	for _, c := range []struct{ args, out string }{
		{"grep a f", "a 1\nab 3\n"},
		{"grep f f", ""},
		{"grep - -", "-a\nb-\n"},
		{"grep -e a f", "a 1\nab 3\n"},
		{"grep -f ab f", "a 1\nb 2\nab 3\n"},
		{"grep -f ab -e x h", "x\nb\n"},
		{"grep -- -a", "-a\n"},
		{"grep -- -a -", "-a\n"},
		{"grep -e -a", "-a\n"},
		{"grep -e-a", "-a\n"},
		{"grep -- -", "-a\nb-\n"},
		{"grep -ne - -- -", "1:-a\n2:b-\n"},
		{"grep -F -- -a", "-a\n"},
		{"grep -- --", ""},
		{"grep a f -", "f:a 1\nf:ab 3\n(standard input):-a\n"},
		{"grep B f h", "h:B\n"},
	} {
		tells(t, "-a\nb-\nn\n", c.args, c.out)
	}
	// Behind the first operand nothing is an option.
	comes(t, job("a\nb\n", "grep a -n"), "", "grep: -n: no such file\n", 2)
	comes(t, job("a\nb\n", "grep -e a - -v"), "(standard input):a\n", "grep: -v: no such file\n", 2)
	comes(t, job("a\nb\n", "grep a -- -"), "(standard input):a\n", "grep: --: no such file\n", 2)
	comes(t, job("a\nb\n", "grep a -e b"), "", "grep: -e: no such file\ngrep: b: no such file\n", 2)
	j := job("q\n", "grep n -- -n ./-")
	j.Nodes = append(j.Nodes, file("/-n", "n\n"), file("/-", "nn\n"), file("/--", "-n-\n"))
	comes(t, j, "--:-n-\n-n:n\n./-:nn\n", "", 0)
	j.Args = strings.Split("grep -c -e n -- -- -n - ./-", " ")
	comes(t, j, "--:1\n-n:1\n(standard input):0\n./-:1\n", "", 0)
}

func TestUsage(t *testing.T) {
	for _, args := range []string{
		// No list.
		"grep", "grep -n", "grep -c", "grep -q", "grep -s", "grep --", "grep -invx", "grep -E", "grep -F --",
		// Two that may not be beside each other.
		"grep -EF a", "grep -FE a", "grep -E -F a", "grep -F -n -E a", "grep -EFE a", "grep -E -e a -F", "grep -E -f ab -F f", "grep -EF -e a", "grep -FEf ab",
		"grep -cl a", "grep -lc a", "grep -cq a", "grep -qc a", "grep -lq a", "grep -ql a", "grep -clq a", "grep -c -l a", "grep -q -v -l a f", "grep -l -e a -c", "grep -q -f ab -c", "grep -cnqv a", "grep -ccl a",
		// Letters that are none.
		"grep -w a", "grep -h a", "grep -H a", "grep -o a", "grep -r a", "grep -L a", "grep -y a", "grep -b a", "grep -1 a", "grep -G a", "grep -nw a", "grep -e a -w", "grep --count a", "grep -P a", "grep -z a", "grep -C1 a", "grep -m 1 a", "grep -I a", "grep -X a", "grep -V a",
		// An argument that is wanted.
		"grep -e", "grep -f", "grep -ne", "grep -e a -e", "grep -e a -f", "grep -cf", "grep -f ab -e",
		// Ahead of all else that may not be.
		"grep -EF [", "grep -cq -f x", "grep -w -f x -e [", "grep -EF -f l f", "grep -E -F -s x x", "grep -lqs [",
	} {
		refuses(t, strings.Split(args, " ")...)
	}
}

// Every byte that is no letter of the synopsis.
func TestLettersThatAreNone(t *testing.T) {
	for x := range 256 {
		letter := string([]byte{byte(x)})
		if strings.Contains("EFclqinsvxef-", letter) {
			continue
		}
		refuses(t, "grep", "-"+letter, "a")
		refuses(t, "grep", "-n"+letter, "a", "f")
		refuses(t, "grep", "-e", "a", "-"+letter)
	}
}
