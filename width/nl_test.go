package width_test

import (
	"strings"
	"testing"
)

// P11.5

func TestNl(t *testing.T) {
	const in = "x\n\ny\n"
	long := strings.Repeat("<>", 50)
	for _, c := range []struct {
		in, out string
		args    []string
	}{
		{in, "     1\tx\n       \n     2\ty\n", nil},
		{in, " 1:x\n   \n 2:y\n", []string{"-w", "2", "-s", ":"}},
		{"", "", nil},
		{"", "", []string{"-b", "a"}},
		{"\n", "       \n", nil},
		{"x", "     1\tx", nil}, // no line feed at its end
		{"x\ny", "     1\tx\n     2\ty", nil},
		{" \n\t\n\r\n", "     1\t \n     2\t\t\n     3\t\r\n", nil}, // lines with a byte
		{"\x00\n\xff", "     1\t\x00\n     2\t\xff", nil},
		{in, "     1\tx\n       \n     2\ty\n", []string{"-b", "t"}}, // which lines
		{in, "     1\tx\n     2\t\n     3\ty\n", []string{"-b", "a"}},
		{in, "       x\n       \n       y\n", []string{"-b", "n"}},
		{"\n\n", "     1\t\n     2\t\n", []string{"-ba"}},
		{"\n\nx", "       \n       \n     1\tx", nil},
		{in, "     0\tx\n       \n     1\ty\n", []string{"-v", "0"}}, // from which on
		{in, "     7\tx\n       \n     8\ty\n", []string{"-v", "007"}},
		{in, "2147483647\tx\n       \n2147483648\ty\n", []string{"-v", "2147483647"}},
		{in, "     1\tx\n       \n     1\ty\n", []string{"-i", "0"}}, // by which
		{in, "     1\tx\n       \n    11\ty\n", []string{"-i", "10"}},
		{in, "     1\tx\n       \n2147483648\ty\n", []string{"-i", "2147483647"}},
		{in, "2147483647\tx\n4294967294\t\n6442450941\ty\n", []string{"-i2147483647", "-v2147483647", "-ba"}},
		{in, "     0\tx\n       \n     0\ty\n", []string{"-v0", "-i0"}},
		{in, "1\tx\n  \n2\ty\n", []string{"-w", "1"}}, // the place
		{in, "9\tx\n  \n10\ty\n", []string{"-w", "1", "-v", "9"}},
		{in, "9\tx\n  \n10\ty\n", []string{"-w", "1", "-v", "9", "-n", "rz"}},
		{in, "9\tx\n  \n10\ty\n", []string{"-w", "1", "-v", "9", "-n", "ln"}},
		{in, "99\tx\n   \n100\ty\n", []string{"-w", "2", "-v", "99"}},
		{in, strings.Repeat(" ", 99) + "1\tx\n" + strings.Repeat(" ", 101) + "\n" + strings.Repeat(" ", 99) + "2\ty\n", []string{"-w", "100"}},
		{in, strings.Repeat("0", 99) + "1\tx\n" + strings.Repeat(" ", 101) + "\n" + strings.Repeat("0", 99) + "2\ty\n", []string{"-w100", "-nrz"}},
		{in, "     1x\n      \n     2y\n", []string{"-s", ""}}, // what stands between
		{in, "     1" + long + "x\n      " + strings.Repeat(" ", 100) + "\n     2" + long + "y\n", []string{"-s", long}},
		{in, "     1\n\x00x\n        \n     2\n\x00y\n", []string{"-s", "\n\x00"}},
		{in, "     1-x\n       \n     2-y\n", []string{"-s", "-"}},
		{in, "     1--x\n        \n     2--y\n", []string{"-s", "--"}},
		{in, "     1%d\\tx\n          \n     2%d\\ty\n", []string{"-s%d\\t"}},
		{in, "     1\tx\n       \n     2\ty\n", []string{"-n", "rn"}}, // how
		{in, "000001\tx\n       \n000002\ty\n", []string{"-n", "rz"}},
		{in, "1     \tx\n       \n2     \ty\n", []string{"-n", "ln"}},
		{in, "010\tx\n    \n020\ty\n", []string{"-nrz", "-w3", "-v10", "-i10"}},
		{in, "10 :x\n    \n20 :y\n", []string{"-nln", "-w3", "-v10", "-i10", "-s:"}},
		{in, "    x\n    \n    y\n", []string{"-bn", "-nrz", "-w3", "-v10", "-i10", "-s:"}},
		{in, "000\tx\n    \n000\ty\n", []string{"-v", "0", "-i", "0", "-w", "3", "-n", "rz"}},
		{in, "     2\tx\n       \n     4\ty\n", []string{"-v", "1", "-v", "x", "-i", "", "-v", "2", "-i", "2"}}, // the last one counts
		{in, "1;x\n  \n2;y\n", []string{"-s", ":", "-w", "0", "-n", "zz", "-b", "", "-s", ";", "-w1", "-n", "rz", "-n", "ln", "-b", "a", "-bt"}},
		{in, "     1\tx\n       \n     2\ty\n", []string{"-"}},
		{in, "     1\tx\n       \n     2\ty\n", []string{"--"}},
		{in, "     1\tx\n       \n     2\ty\n", []string{"--", "-"}},
		{in, "     1\tone\n     2\ttwo", []string{"f"}},
		{in, "", []string{"-ba", "--", "e"}},
		{in, "     1\tgg\n", []string{"d/g"}},
	} {
		comesAnyhow(t, c.in, c.out, append([]string{"nl"}, c.args...)...)
	}
}

// Numbers grow wider than their place.
func TestNlOfManyLines(t *testing.T) {
	in := strings.Repeat("x\n", 1200)
	var want strings.Builder
	for n := range 1200 {
		d := digits(n + 1)
		want.WriteString(strings.Repeat("0", max(0, 2-len(d))) + d + "x\n")
	}
	j := jobOf(in, "nl", "-w", "2", "-s", "", "-n", "rz")
	j.Lim.Buf = 100
	comes(t, j, want.String(), "", 0)
}

func TestNlOptionsThatMayNotBe(t *testing.T) {
	for _, args := range []string{
		"nl f e", "nl - -", "nl f -", "nl -b a f e", "nl -- f e", "nl f -b a", "nl - f e",
		"nl -b", "nl -v", "nl -i", "nl -w", "nl -s", "nl -n", "nl -b a -s",
		"nl -b x", "nl -b T", "nl -b ta", "nl -b tt", "nl -b pa", "nl -b t -b x", "nl -b -- f", "nl -b 1",
		"nl -n r", "nl -n n", "nl -n rx", "nl -n RN", "nl -n rnn", "nl -n lz", "nl -n zr", "nl -n rz -n x", "nl -n -",
		"nl -w 0", "nl -w 101", "nl -w 00", "nl -w -1", "nl -w +1", "nl -w x", "nl -w 1x", "nl -w 4294967297", "nl -w 2 -w 0", "nl -w 99999999999999999999999",
		"nl -v -1", "nl -v +1", "nl -v x", "nl -v 2147483648", "nl -v 18446744073709551616", "nl -v 1 -v -1", "nl -v 1.5",
		"nl -i -1", "nl -i +1", "nl -i x", "nl -i 2147483648", "nl -i 18446744073709551616", "nl -i 1 -i 0x1",
		"nl -x", "nl -a", "nl -t", "nl -ba -x", "nl -l 1", "nl -p", "nl -h a", "nl -f a", "nl -d x", "nl -B a", "nl --b a", "nl -1",
	} {
		refuses(t, strings.Fields(args)...)
	}
	for _, letter := range []string{"-b", "-n", "-w", "-v", "-i"} {
		refuses(t, "nl", letter, "")
		refuses(t, "nl", letter, " ")
		refuses(t, "nl", letter, "1\n")
	}
	refuses(t, "nl", "", "")
	refuses(t, "nl", "-b", "t\x00")
	refuses(t, "nl", "-v", " 1")
	refuses(t, "nl", "-s", "", "f", "e")
}
