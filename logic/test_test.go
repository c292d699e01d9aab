package logic_test

import (
	"strings"
	"testing"

	"toolchest/api"
)

// P20.1

func TestNoneAndOne(t *testing.T) {
	judge(t, "none", 1)
	judge(t, "", 1)
	for _, arg := range []string{"a", "!", "(", ")", "-z", "-n", "-e", "=", "-eq", "0", "1", "-", "--", "-x", "\n", "\x00", "\xff", "]", "nof", "false"} {
		judge(t, arg, 0)
	}
	judgeList(t, []string{" "}, 0)
}

func TestTwo(t *testing.T) {
	for args, status := range map[string]int{
		"! a":  1,
		"! ":   0,
		"! !":  1,
		"! -z": 1,
		"! (":  1,
		"! =":  1,
		"! 0":  1,
		"-z a": 1,
		"-z ":  0,
		"-z !": 1,
		"-n a": 0,
		"-n ":  1,
		"-n )": 0,
		"-n =": 0,
		"-z 0": 1,
		"-e (": 0,
		"-e )": 1,
		"-e !": 0,
		"-d =": 0,
		"-f =": 1,
	} {
		judge(t, args, status)
	}
	for _, args := range []string{"a b", "a ", " a", " ", "( )", "( a", "a )", ") (", "( !", "( -z", "= a", "a =", "= =", "-eq 1", "1 -eq", "a !", " !", "a -z", "- a", "-- a", "-- -z", "-q a", "-t 0", "-zz a", "-Z a", "-N a", "z a", "-a a", "-o a", "-h f", "-L f", "e f", "--z a", "1 2"} {
		judge(t, args, 2, usage)
	}
}

func TestThree(t *testing.T) {
	for args, status := range map[string]int{
		// The second one is a sign.
		"a = a":     0,
		"a = b":     1,
		"a != b":    0,
		"1 -eq 1":   0,
		"! = !":     0,
		"! = a":     1,
		"! = ":      1,
		"! != a":    0,
		"( = )":     1,
		"( != )":    0,
		"( = (":     0,
		") = (":     1,
		"-z = -z":   0,
		"-z = a":    1,
		"-n != ":    0,
		"= = =":     0,
		"= != =":    1,
		"!= = !=":   0,
		" = ":       0,
		"a = ":      1,
		" = a":      1,
		"-eq = -eq": 0,
		"] = ]":     0,
		// The first one turns the others.
		"! -z a": 0,
		"! -z ":  1,
		"! -n ":  0,
		"! -e f": 1,
		"! -d f": 0,
		"! ! a":  0,
		"! ! ":   1,
		"! ! !":  0,
		// What stands in parentheses.
		"( a )":  0,
		"(  )":   1,
		"( ! )":  0,
		"( ( )":  0,
		"( ) )":  0,
		"( -z )": 0,
		"( 0 )":  0,
	} {
		judge(t, args, status)
	}
	for _, args := range []string{"a b c", "! a b", "! a ", "!  ", "! ( )", "! a =", "! = ! ", "! - a", "! -q a", "( a b", "( a (", "( a !", "a b )", ") a (", "! a )", "-z a b", "-z  ", "-n a )", "( a ] ", "a == a", "a -a b", "a -o b", "1 eq 1", "1 -EQ 1", "1 -eq= 1", "f -nt e", "f -ef f", "a < b", "1 + 1", "a : a", "a ! b", "a ( b", "  "} {
		judge(t, args, 2, usage)
	}
	// The sign is ahead of what stands around.
	judge(t, "( -eq )", 2, "(: not a number")
	judge(t, "! -eq 1", 2, "!: not a number")
	judge(t, "-z -lt 1", 2, "-z: not a number")
}

func TestFour(t *testing.T) {
	for args, status := range map[string]int{
		"! a = a":   1,
		"! a = b":   0,
		"! a != a":  0,
		"! 1 -lt 2": 1,
		"! 2 -lt 1": 0,
		"! ! = !":   1,
		"! = = =":   1,
		"! ( = )":   0,
		"! ! -z a":  1,
		"! ! -n a":  0,
		"! ! -e f":  0,
		"! ! ! a":   1,
		"! ! ! ":    0,
		"! ! ! !":   1,
		"! ( a )":   1,
		"! (  )":    0,
		"! ( ! )":   1,
		"( -z a )":  1,
		"( -z  )":   0,
		"( -n ) )":  0,
		"( -e f )":  0,
		"( -d f )":  1,
		"( ! a )":   1,
		"( !  )":    0,
		"( ! ! )":   1,
		"( ! ( )":   1,
		"( -z ! )":  1,
	} {
		judge(t, args, status)
	}
	for _, args := range []string{"a b c d", "! a b c", "! ( a b", "! ! a b", "! ! ( )", "! -z a b", "( a b )", "( ( ) )", "( = ) )", "( a = )", "( - a )", "( a = a", "a = a )", "( a ) b", "( a ) )", ") a b (", "a = b c", "-z a = b", "a -z b c", "= = = =", "1 -eq 1 1", "a ! = b", "   ", "( a ) !", "-n ( a )"} {
		judge(t, args, 2, usage)
	}
	// The other way round of an error is the error.
	judge(t, "! 1 -eq x", 2, "x: not a number")
	judge(t, "! x -eq y", 2, "x: not a number")
	judge(t, "! ( -eq )", 2, "(: not a number")
	judge(t, "!  -gt 1", 2, noNumber)
}

func TestMore(t *testing.T) {
	for _, args := range []string{"! ! a = a", "( a = a )", "( 1 -eq 1 )", "! ( -z a )", "( ( a ) )", "! ! ! ! a", "( ! ! a )", "a = a -a b", "-z a -o -n b", "a b c d e", "    ", "( ! a = b )", "! ! ! ! ! !", "! ( a = a )", "( ( ( a ) ) )"} {
		judge(t, args, 2, usage)
	}
	judge(t, strings.TrimSpace(strings.Repeat("! ", 999)), 2, usage)
}

// Of `[` the last argument has to be `]`; it is left out, another one is an argument.
func TestBracket(t *testing.T) {
	for args, status := range map[string]int{
		"[ ]":              1,
		"[ ] ]":            0,
		"[ ! ]":            0,
		"[ ! ] ]":          1,
		"[  ]":             1,
		"[ a ]":            0,
		"[ -z ]":           0,
		"[ -z ] ]":         1,
		"[ ] = ] ]":        0,
		"[ ] != ] ]":       1,
		"[ 2 -lt 10 ]":     0,
		"[ ( ] ) ]":        0,
		"[ [ ]":            0,
		"[ [ = ] ]":        1,
		"[ = ]":            0,
		"[ ! ( ] ) ]":      1,
		"test ]":           0,
		"test ] = ]":       0,
		"test -n ]":        0,
		"test [":           0,
		"test [ = [":       0,
		"test [ -eq ] = a": 2,
	} {
		r := run(t, job(args))
		if r.Status != status || len(r.Out) != 0 || (len(r.Err) != 0) != (status == 2) {
			t.Errorf("%s: told %q, said %q, %d, not %d", args, r.Out, r.Err, r.Status, status)
		}
	}
	for _, args := range []string{"[", "[ a", "[ ]]", "[ ] a", "[ ] ", "[ a ] ", "[ a ] b", "[ a = a", "[ a = ]", "[ = a ]", "[ a ] b ]", "[ ] a ]", "[ a ] ]", "[ [ ] ]", "[ [ a ] ]", "[ -z a", "[ ! a", "[ ] -z a", "[ ( a )", "[ a b c ]", "[ a b c d e ]", "[ \x5d\x00", "[ ]\n"} {
		anyhow(t, split(args), 1, "", "[: usage\n", 2)
	}
	// Where `]` lacks, nothing else is done.
	anyhow(t, split("[ -e f"), 1, "", "[: usage\n", 2)
	anyhow(t, split("[ x -eq y"), 1, "", "[: usage\n", 2)
	anyhow(t, split("[ x -eq y ]"), 1, "", "[: x: not a number\n", 2)
	for _, args := range []string{"test a ]", "test -z a ]", "test a = a ]", "test [ a ]"} {
		anyhow(t, split(args), 1, "", "test: usage\n", 2)
	}
}

// P20.2: the unary ones.

func TestEmptyAndNot(t *testing.T) {
	for _, s := range []string{"a", " ", "0", "-", "-z", "!", "\x00", "\n", "f", "nof", strings.Repeat("x", 10000)} {
		judgeList(t, []string{"-z", s}, 1)
		judgeList(t, []string{"-n", s}, 0)
		judgeList(t, []string{"!", "-z", s}, 0)
		judgeList(t, []string{"(", "-n", s, ")"}, 0)
	}
	judge(t, "-z ", 0)
	judge(t, "-n ", 1)
}

// Paths, and the signs that are true of them: where one leads nowhere none is.
func TestPaths(t *testing.T) {
	for path, signs := range map[string]string{
		"d":                                  "edrwx",
		"/d":                                 "edrwx",
		"d/":                                 "edrwx",
		"d//":                                "edrwx",
		"./d/../d/.":                         "edrwx",
		"d/x":                                "efsrw",
		"//d//x":                             "efsrw",
		"d/y":                                "ed",
		"e":                                  "efrwx",
		"f":                                  "efs",
		"g":                                  "efsr",
		"h":                                  "efsw",
		"i":                                  "efsx",
		"-n":                                 "efwx",
		"!":                                  "efrx",
		"(":                                  "edrw",
		"=":                                  "ed",
		"/":                                  "edrwx",
		".":                                  "edrwx",
		"..":                                 "edrwx",
		"":                                   "",
		"nof":                                "",
		"D":                                  "",
		"d/nof":                              "",
		"nof/x":                              "",
		"nof/../f":                           "",
		"f/":                                 "",
		"f/x":                                "",
		"f/.":                                "",
		"f/..":                               "",
		"f/../f":                             "",
		"d/x/":                               "",
		" f":                                 "",
		"f ":                                 "",
		"f\x00":                              "",
		"f\n":                                "",
		"-e":                                 "",
		strings.Repeat("f", 33):              "",
		strings.Repeat("x/", 20):             "",
		strings.Repeat("d/../", 300) + "d/x": "efsrw",
		strings.Repeat("../", 300) + "h":     "efsw",
	} {
		for _, letter := range "edfsrwx" {
			sign, status := "-"+string(letter), 1
			if strings.ContainsRune(signs, letter) {
				status = 0
			}
			judgeList(t, []string{sign, path}, status)
			judgeList(t, []string{"!", sign, path}, 1-status)
			judgeList(t, []string{"(", sign, path, ")"}, status)
			if r := run(t, jobOf("test", sign, path)); r.Steps != 1 {
				t.Errorf("%s %q: %d steps", sign, path, r.Steps)
			}
		}
	}
}

// A path is taken from where the job is.
func TestCwd(t *testing.T) {
	for args, status := range map[string]int{
		"test -f x":      0,
		"test -f d/x":    1,
		"test -e f":      1,
		"test -e ../f":   0,
		"test -e /f":     0,
		"test -d .":      0,
		"test -d y":      0,
		"test -s x":      0,
		"[ -d .. ]":      0,
		"[ -r y ]":       1,
		"[ -r ../d ]":    0,
		"[ -x ../../. ]": 0,
	} {
		j := job(args)
		j.Cwd = "/d"
		comes(t, j, "", "", status)
	}
}

// Each mode, of files and directories: the three bits of its owner alone count.
func TestModes(t *testing.T) {
	for mode := range 0o1000 {
		for _, n := range []api.Node{file("/q", "", mode), dir("/q", mode)} {
			for letter, bit := range map[string]int{"-r": 0o400, "-w": 0o200, "-x": 0o100} {
				status := 1
				if mode&bit != 0 {
					status = 0
				}
				j := jobOf("test", letter, "q")
				j.Nodes = []api.Node{n}
				comes(t, j, "", "", status)
			}
		}
	}
}

// A file that two names have, and what its first name is.
func TestLinks(t *testing.T) {
	for args, status := range map[string]int{"test -s b": 0, "test -f a": 0, "test -d b": 1, "test -w b": 0} {
		j := job(args)
		j.Nodes = []api.Node{{Path: "/a", Ino: 4, Mode: 0o200, Data: []byte("x")}, {Path: "/b", Ino: 4, Mode: 0o200, Data: []byte("x")}}
		comes(t, j, "", "", status)
	}
}

// P20.2: the binary ones.

func TestTexts(t *testing.T) {
	texts := []string{"", "a", "A", "aa", "b", " a", "a ", "0", "00", "-0", "1", "01", "+1", "=", "!=", "!", "(", ")", "\x00", "\n", "ä", "\xe4", "\xff"}
	for _, a := range texts {
		for _, b := range texts {
			same, other := 1, 0
			if a == b {
				same, other = 0, 1
			}
			judgeList(t, []string{a, "=", b}, same)
			judgeList(t, []string{a, "!=", b}, other)
			judgeList(t, []string{"!", a, "=", b}, other)
		}
	}
	long := strings.Repeat("x", 5000)
	judgeList(t, []string{long, "=", long}, 0)
	judgeList(t, []string{long, "=", long + "y"}, 1)
}

// numbers are in order; those of one line are the same.
func numbers() [][]string {
	return [][]string{
		{"-9223372036854775808", "-0009223372036854775808"},
		{"-9223372036854775807"},
		{"-2147483649"},
		{"-10", "-010"},
		{"-9"},
		{"-2"},
		{"-1", "-01", "-" + strings.Repeat("0", 100) + "1"},
		{"0", "-0", "00", "-00", strings.Repeat("0", 100)},
		{"1", "01", strings.Repeat("0", 100) + "1"},
		{"2"},
		{"9", "09"},
		{"10", "010"},
		{"4294967296"},
		{"9223372036854775806"},
		{"9223372036854775807", "0009223372036854775807"},
	}
}

// signsOfOrder are the signs that hold, by the order of two numbers.
func signsOfOrder(order int) string {
	switch {
	case order < 0:
		return " -ne -lt -le "
	case order > 0:
		return " -ne -gt -ge "
	}
	return " -eq -ge -le "
}

func TestNumbers(t *testing.T) {
	for i, group := range numbers() {
		for k, others := range numbers() {
			for _, sign := range []string{"-eq", "-ne", "-gt", "-ge", "-lt", "-le"} {
				status := 1
				if strings.Contains(signsOfOrder(i-k), " "+sign+" ") {
					status = 0
				}
				for _, a := range group {
					for _, b := range others {
						comes(t, jobOf("test", a, sign, b), "", "", status)
						comes(t, jobOf("[", "!", a, sign, b, "]"), "", "", 1-status)
					}
				}
			}
		}
	}
	judge(t, "2 -lt 10", 0)
	judge(t, "-3 -ge -2", 1)
	judge(t, "9223372036854775807 -gt -9223372036854775808", 0)
}

// noNumbers are texts that are none.
func noNumbers() []string {
	return []string{"", "-", "--", "+", "+1", "-+1", "+-1", "--1", "- 1", " 1", "1 ", " ", "\t1", "1\n", "1-", "1-1", "a", "1a", "a1", "0x1", "0b1", "0o7", "1_0", "1.0", "1.", ".1", "1e1", "1,0", "'1", "!", "(", ")", "=", "\x00", "1\x00", "\xff", "١", "9223372036854775808", "-9223372036854775809", "18446744073709551616", "-18446744073709551615", strings.Repeat("9", 200), "00009223372036854775808", "inf", "NaN", "nil"}
}

func TestNoNumbers(t *testing.T) {
	for _, s := range noNumbers() {
		for _, sign := range []string{"-eq", "-ne", "-gt", "-ge", "-lt", "-le"} {
			judgeList(t, []string{s, sign, "1"}, 2, ofText(s, noNumber))
			judgeList(t, []string{"-1", sign, s}, 2, ofText(s, noNumber))
			// The first one is told.
			judgeList(t, []string{s, sign, "other"}, 2, ofText(s, noNumber))
			judgeList(t, []string{"other", sign, s}, 2, "other: not a number")
			judgeList(t, []string{"!", "1", sign, s}, 2, ofText(s, noNumber))
		}
		judgeList(t, []string{s, "=", s}, 0)
	}
}
