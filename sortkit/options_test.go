package sortkit_test

import (
	"strings"
	"testing"
)

// P13.1: each option that there is.
func TestOptions(t *testing.T) {
	const in = "b 2\nB 10\na 9\nb 2\n"
	for _, c := range []struct{ args, out string }{
		{"sort", "B 10\na 9\nb 2\nb 2\n"},
		{"sort -m", "B 10\na 9\nb 2\nb 2\n"},
		{"sort -u", "B 10\na 9\nb 2\n"},
		{"sort -r", "b 2\nb 2\na 9\nB 10\n"},
		{"sort -f", "a 9\nB 10\nb 2\nb 2\n"},
		{"sort -d", "B 10\na 9\nb 2\nb 2\n"},
		{"sort -i", "B 10\na 9\nb 2\nb 2\n"},
		{"sort -b", "B 10\na 9\nb 2\nb 2\n"},
		{"sort -n", "B 10\na 9\nb 2\nb 2\n"},
		{"sort -k 2", "B 10\nb 2\nb 2\na 9\n"},
		{"sort -k2n", "b 2\nb 2\na 9\nB 10\n"},
		{"sort -n -k 2", "b 2\nb 2\na 9\nB 10\n"},
		{"sort -k 2nr -k 1,1", "B 10\na 9\nb 2\nb 2\n"},
		{"sort -t 1 -k 2", "a 9\nb 2\nb 2\nB 10\n"},
		{"sort -t x -t1 -k 2", "a 9\nb 2\nb 2\nB 10\n"},
		{"sort -mufr", "b 2\nB 10\na 9\n"},
		{"sort -mm -uu -rr -ff", "b 2\nB 10\na 9\n"},
		{"sort -u -k 1,1 -f", "a 9\nb 2\n"},
		{"sort -fuk1,1", "a 9\nb 2\n"},
		{"sort -bdfinr", "b 2\nb 2\na 9\nB 10\n"},
		{"sort -r --", "b 2\nb 2\na 9\nB 10\n"},
		{"sort -r -", "b 2\nb 2\na 9\nB 10\n"},
		{"sort -r -- -", "b 2\nb 2\na 9\nB 10\n"},
	} {
		comesAnyhow(t, in, c.out, strings.Fields(c.args)...)
	}
}

// Inputs need not be sorted, whatever -m promises.
func TestMerging(t *testing.T) {
	comes(t, job("b\na\n", "sort -m f -"), "a\napple\nb\nfig\nfig\npear\n", "", 0)
	comes(t, tight("b\na\n", "sort -m f -"), "a\napple\nb\nfig\nfig\npear\n", "", 0)
}

// P13.1, F4: what may not be is said, with the status 2, and nothing else is done.
func TestUsage(t *testing.T) {
	for _, args := range []string{
		"sort -x", "sort -ux", "sort -1", "sort -e", "sort -M", "sort -U", "sort -K 1", "sort -T .", "sort -z", "sort -s", "sort -R", "sort -g", "sort -V", "sort -S 1", "sort --unique", "sort -o f -x", "sort -cx", "sort -Cux f",
	} {
		refuses(t, strings.Fields(args)...)
	}
	// An order that may not be.
	for _, args := range []string{
		"sort -k 0", "sort -k x", "sort -k 1.0", "sort -k 1,", "sort -k 1,0", "sort -k 1x", "sort -k 1c", "sort -k 1u", "sort -k 2147483648", "sort -k 1 -k 0", "sort -k 0 -k 1", "sort -t ab", "sort -tab", "sort -t : -t ab", "sort -k -1", "sort -k 1,2,3",
		"sort -c -k 0", "sort -C -t ab", "sort -m -k 0", "sort -o f -k 0 h", "sort -u -k 1.2.3",
	} {
		refuses(t, strings.Fields(args)...)
	}
	refuses(t, "sort", "-t", "")
	refuses(t, "sort", "-k", "")
	refuses(t, "sort", "-t:", "-t", "")
	// An option without its argument.
	for _, args := range []string{"sort -o", "sort -k", "sort -t", "sort -uo", "sort -rk", "sort -ft", "sort -o f -o"} {
		refuses(t, strings.Fields(args)...)
	}
	// With -c or -C.
	for _, args := range []string{
		"sort -cm", "sort -mc", "sort -Cm", "sort -c -m f", "sort -c -o f", "sort -co f", "sort -o f -c", "sort -C -o f", "sort -cC -m", "sort -cmo f",
		"sort -c f h", "sort -C f h", "sort -c - -", "sort -c f -u", "sort -c f f f", "sort -cC f h", "sort -c -- f h", "sort -c x y",
	} {
		refuses(t, strings.Fields(args)...)
	}
}

// Of several -t the last one alone counts, and of several -o.
func TestLastOnesCount(t *testing.T) {
	comes(t, job("b:1\na:2\n", "sort -t ab -t : -k 2"), "b:1\na:2\n", "", 0)
	j := job("b\na\n", "sort -o x -o e -oz")
	want := pure(t, j)
	want.Nodes = with(j.Nodes, "/z", "a\nb\n")
	comesTo(t, j, want)
}

// Behind an operand nothing is an option.
func TestOperandsThatLookLikeOptions(t *testing.T) {
	comes(t, job("", "sort h -r"), "\n-1\n10\n9\n", "sort: -r: no such file\n", 2)
	comes(t, job("", "sort -- -c"), "", "sort: -c: no such file\n", 2)
	comes(t, job("", "sort f -o h"), "\n-1\n10\n9\napple\nfig\nfig\npear\n", "sort: -o: no such file\n", 2)
	comes(t, job("b\na\n", "sort -n - -c"), "a\nb\n", "sort: -c: no such file\n", 2)
}

// Each set of the options without arguments, with one operand and with two.
func TestEverySetOfOptions(t *testing.T) {
	const letters = "cCmubfnr"
	for set := range 1 << len(letters) {
		args := []string{"sort"}
		for i := range len(letters) {
			if set>>i&1 == 1 {
				args = append(args, "-"+letters[i:i+1])
			}
		}
		for _, operands := range []string{"", "f", "h -", "- f"} {
			j := jobOf("b 1\nA\n a\nb 1\n", append(args, strings.Fields(operands)...)...)
			follows(t, j)
			j.Lim = lim(2, 8, 9)
			follows(t, j)
		}
	}
}
