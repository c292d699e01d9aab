package logic_test

import (
	"slices"
	"strconv"
	"strings"
	"testing"

	"toolchest/api"
	"toolchest/regex"
)

// P20.3

// A value alone is told as it is; the status is 1, if it is null.
func TestValues(t *testing.T) {
	for _, s := range []string{"", "0", "00", "-0", "-00", "0000000000000000000000000000000", "-" + strings.Repeat("0", 300)} {
		anyhow(t, []string{"expr", s}, 1, s+"\n", "", 1)
		anyhow(t, []string{"expr", "(", s, ")"}, 1, s+"\n", "", 1)
	}
	for _, s := range []string{"1", "-1", "007", "a", "a b", " ", "-", "--", "---", "+0", " 0", "0 ", "0.0", "0x0", "0a", "-0-", "--0", "\n", "\x00", "\xff", "00000000001", "9223372036854775808", "-9223372036854775808", "-n", "-x", "--help", "length", "match", "substr", "index", "!", "[", "]", "==", "||", "&&", "**", "()", "/d", "!==", "< "} {
		anyhow(t, []string{"expr", s}, 1, s+"\n", "", 0)
		anyhow(t, []string{"expr", "(", "(", s, ")", ")"}, 1, s+"\n", "", 0)
	}
}

func TestNoExpressions(t *testing.T) {
	anyhow(t, []string{"expr"}, 1, "", "expr: usage\n", 2)
	for _, args := range []string{
		"(", ")", "( )", ") (", ") )", "( (", "( ( ) )", "( ) 1", "1 ( )", "1 + ( )", "( ) + 1",
		"1 2", "1  ", " 1", " ", "a b", "1 a", "( 1 2 )", "( 1 ) 2", "1 ( 2 )", "( 1 ) ( 2 )", "( 1", "1 )", "( 1 ) )", "( ( 1 )", ") 1", "1 (", "1 ) (", ") 1 (",
		"1 +", "1 + 2 +", "( 1 + )", "( 1 + ) 2", "1 + )", "1 + (", "( 1 ) +", "+ 1", "- 1", "+ 1 + 2", "1 2 + 3", "1 + 2 3", "1 + 2 -3", "( + 1 )",
		"1 ** 2", "1 == 2", "1 || 2", "1 ! 2", "1 and 2", "1 +2", "1 + 2 ) + ( 3", "length abc", "match abc a", "substr abc 1 2", "index abc a", "+ length", "- 1 + 2", "-- 1", "-- 1 + 2", "! 1",
		"| 1", "1 |", "& 1", "1 &", "= 1", "1 =", "> 1", "1 >", ">= 1", "1 >=", "< 1", "1 <", "<= 1", "1 <=", "!= 1", "1 !=", "* 1", "1 *", "/ 1", "1 /", "% 1", "1 %", ": 1", "1 :",
		"+ +", ": :", "( + + )", "| | | |", "+ + + +", "1 + + +",
	} {
		says(t, args, usage)
	}
	// That it is no expression is told ahead of what goes wrong in it.
	for _, args := range []string{"1 / 0 +", "a + 1 2", "( 1 / 0", "1 / 0 )", "1 + a )", "x : [ :", "1 / 0 ( 1 )", "( a * 2 ) + ( )"} {
		says(t, args, usage)
	}
}

// Where an operand stands a sign is a value, but for a parenthesis.
func TestSignsAsValues(t *testing.T) {
	for _, sign := range exprSigns {
		tells(t, sign, sign, 0)
		tells(t, "( "+sign+" )", sign, 0)
		tells(t, sign+" = "+sign, "1", 0)
		tells(t, sign+" | "+sign, sign, 0)
		tells(t, "0 & "+sign, "0", 1)
		tells(t, sign+" & 1", sign, 0)
		tells(t, "( "+sign+" != "+sign+" ) | "+sign, sign, 0)
		says(t, "1 + "+sign, sign+": not a number")
		says(t, sign+" + 1", sign+": not a number")
		says(t, sign+" "+sign, usage)
	}
	for args, value := range map[string]string{
		"= = =":         "1",
		"= != =":        "0",
		"< < >":         "1",
		"> < <":         "0",
		"| | |":         "|",
		"& & &":         "&",
		": : :":         "1",
		"* : *":         "1",
		"a : *":         "0",
		"/ : /":         "1",
		"+ : +":         "1",
		"a+b : a+":      "2",
		"( = = = ) = 1": "1",
		"( | | | )":     "|",
		"= = ( = )":     "1",
		"<= < =":        "1",
		"% >= +":        "0",
	} {
		tells(t, args, value, map[bool]int{true: 1}[value == "0"])
	}
	says(t, "+ + +", "+: not a number")
	says(t, "- - -", "-: not a number")
	says(t, "* * /", "*: not a number")
	says(t, "1 - -", "-: not a number")
}

// Each strength against the next one, and those of one from the left on.
func TestStrengths(t *testing.T) {
	for args, value := range map[string]string{
		"1 | 0 & 0":                     "1",
		"( 1 | 0 ) & 0":                 "0",
		"0 & 0 | 1":                     "1",
		"0 & ( 0 | 1 )":                 "0",
		"2 & 1 = 1":                     "2",
		"( 2 & 1 ) = 1":                 "0",
		"1 = 1 & 2":                     "1",
		"1 = ( 1 & 2 )":                 "1",
		"2 > 1 & 3":                     "1",
		"2 > ( 1 & 3 )":                 "1",
		"5 & 2 > 1":                     "5",
		"( 5 & 2 ) < 1":                 "0",
		"3 = 1 + 2":                     "1",
		"( 3 = 1 ) + 2":                 "2",
		"1 + 2 = 3":                     "1",
		"1 + ( 2 = 3 )":                 "1",
		"7 > 2 + 3":                     "1",
		"( 7 > 2 ) + 3":                 "4",
		"1 != 1 - 1":                    "1",
		"4 >= 2 + 2":                    "1",
		"4 <= 1 + 2":                    "0",
		"5 < 2 - 1":                     "0",
		"1 + 2 * 3":                     "7",
		"( 1 + 2 ) * 3":                 "9",
		"2 * 3 + 4":                     "10",
		"2 * ( 3 + 4 )":                 "14",
		"9 - 6 / 3":                     "7",
		"( 9 - 6 ) / 3":                 "1",
		"9 - 7 % 4":                     "6",
		"7 % 4 - 9":                     "-6",
		"2 * 345 : 3":                   "2",
		"( 2 * 345 ) : 6":               "1",
		"345 : 3 * 2":                   "2",
		"345 : ( 3 * 1 )":               "1",
		"12 / abcd : .*":                "3",
		"7 % abc : .*":                  "1",
		"7 - 2 - 1":                     "4",
		"7 - ( 2 - 1 )":                 "6",
		"7 - 2 + 1":                     "6",
		"7 + 2 - 1":                     "8",
		"16 / 4 / 2":                    "2",
		"16 / ( 4 / 2 )":                "8",
		"2 * 7 / 3 * 2":                 "8",
		"17 % 10 % 4":                   "3",
		"17 % 10 / 4 * 3":               "3",
		"5 * 7 % 4":                     "3",
		"5 * ( 7 % 4 )":                 "15",
		"3 > 2 > 1":                     "0",
		"3 > ( 2 > 1 )":                 "1",
		"1 < 2 = 1":                     "1",
		"5 = 5 = 5":                     "0",
		"5 != 5 = 0":                    "1",
		"3 >= 2 >= 1 <= 0":              "0",
		"abc : . : 1":                   "1",
		"abc : ( . : . )":               "0",
		"1 | 2 | 3":                     "1",
		"0 |  | 3":                      "3",
		"1 & 2 & 3":                     "1",
		"1 & 2 & 0":                     "0",
		"1 | 2 & 0 = 1 + 2 * 3 : 4":     "1",
		"0 | 4 & 7 = 1 + 2 * 333 : 333": "4",
		"333 : 333 * 2 + 1 = 7 & 4 | 0": "1",
		"( ( ( 1 + 2 ) * 3 - 4 ) / 2 )": "2",
		"( 1 ) + ( 2 ) * ( ( 3 ) )":     "7",
		"( ( 7 - 2 ) - ( 1 - 4 ) ) % 5": "3",
	} {
		tells(t, args, value, map[bool]int{true: 1}[value == "0"])
	}
}

func TestEitherAndBoth(t *testing.T) {
	for _, c := range []struct{ a, b, either, both string }{
		{"a", "b", "a", "a"},
		{"a", "0", "a", "0"},
		{"a", "", "a", "0"},
		{"0", "b", "b", "0"},
		{"", "b", "b", "0"},
		{"00", "b", "b", "0"},
		{"-0", "b", "b", "0"},
		{"0", "0", "0", "0"},
		{"0", "", "0", "0"},
		{"", "0", "0", "0"},
		{"", "", "0", "0"},
		{"", "00", "00", "0"}, // it has bytes
		{"", "-0", "-0", "0"},
		{"0", "-00", "-00", "0"},
		{"00", "0", "0", "0"},
		{"-0", "", "0", "0"},
		{"1", "00", "1", "0"},
		{"01", "02", "01", "01"},
		{"+0", "0", "+0", "0"},
		{"+0", "-", "+0", "+0"},
		{"0", "+0", "+0", "0"},
		{" ", "", " ", "0"},
		{"", " ", " ", "0"},
		{"0 ", "x", "0 ", "0 "},
		{"x", "0 ", "x", "x"},
		{"99999999999999999999", "y", "99999999999999999999", "99999999999999999999"},
		{"\n", "\x00", "\n", "\n"},
	} {
		for sign, value := range map[string]string{"|": c.either, "&": c.both} {
			status := 0
			if slices.Contains([]string{"0", "00", "-0", "-00"}, value) {
				status = 1
			}
			anyhow(t, []string{"expr", c.a, sign, c.b}, 1, value+"\n", "", status)
			anyhow(t, []string{"expr", "(", c.a, ")", sign, "(", c.b, ")"}, 1, value+"\n", "", status)
		}
	}
	// All of it is reckoned: what goes wrong on a side whose value is not asked for, too.
	for args, errs := range map[string]string{
		"1 | 1 / 0":         noNumber,
		"1 | a + 1":         "a: not a number",
		"1 | ( x : [ )":     "[: bad regular expression",
		"0 & 1 / 0":         noNumber,
		"0 & 1 + a":         "a: not a number",
		" & x : \\":         "\\: bad regular expression",
		"1 / 0 | 1":         noNumber,
		"a + 1 & 0":         "a: not a number",
		"1 | ( 2 | 3 % 0 )": noNumber,
	} {
		says(t, args, errs)
	}
}

// holds are the signs of comparisons that hold, by the order of two values.
func holds(order int) string {
	switch {
	case order < 0:
		return " != < <= "
	case order > 0:
		return " != > >= "
	}
	return " = >= <= "
}

// compares fails, if something else than their order comes of comparisons of two values.
func compares(t *testing.T, a, b string, order int) {
	t.Helper()
	for _, sign := range []string{"=", "!=", "<", "<=", ">", ">="} {
		value, status := "0\n", 1
		if strings.Contains(holds(order), " "+sign+" ") {
			value, status = "1\n", 0
		}
		comes(t, jobOf("expr", a, sign, b), value, "", status)
	}
}

func TestComparisons(t *testing.T) {
	for i, group := range numbers() {
		for k, others := range numbers() {
			for _, a := range group {
				for _, b := range others {
					compares(t, a, b, i-k)
				}
			}
		}
	}
	// Texts, in order: where one is no number, both are texts.
	texts := []string{"", "\x00", "\n", " ", " 1", "!", "+1", "-", "-1a", "/", "0a", "0x1", "1 ", "10a", "2a", "A", "Z", "a", "a\x00", "a1", "aa", "ab", "abc", "b", "ba", "\xc3\xa4", "\xe4", "\xff", "\xff\xff"}
	for i, a := range texts {
		for k, b := range texts {
			compares(t, a, b, i-k)
		}
	}
	for _, c := range []struct {
		a, b  string
		order int
	}{
		{"2", "10", -1},
		{"2", "10a", 1},
		{"2", "+10", 1},
		{"2a", "10", 1},
		{"02", "2", 0},
		{"02", "2a", -1},
		{"-1", "-", 1},
		{"-2", "-10", 1},
		{"-2", "-10-", 1},
		{"1", "", 1},
		{"", "0", -1},
		{"9", "9223372036854775808", -1}, // no number, so that both are texts
		{"92", "9223372036854775808", -1},
		{"93", "9223372036854775808", 1},
		{"10000000000000000000", "9", -1},
		{"-9223372036854775809", "-9223372036854775808", 1},
		{"9223372036854775807", "9223372036854775808", -1},
		{"9223372036854775807", "18446744073709551615", 1},
	} {
		compares(t, c.a, c.b, c.order)
		compares(t, c.b, c.a, -c.order)
	}
	long := strings.Repeat("x", 5000)
	compares(t, long, long+"x", -1)
	compares(t, long+"y", long+"x", 1)
}

const (
	least    = "-9223372036854775808"
	greatest = "9223372036854775807"
)

func TestReckoning(t *testing.T) {
	for args, value := range map[string]string{
		"1 + 2":                        "3",
		"1 + -2":                       "-1",
		"-1 + 2":                       "1",
		"-1 + -2":                      "-3",
		"2 - 3":                        "-1",
		"2 - -3":                       "5",
		"-2 - 3":                       "-5",
		"-2 - -3":                      "1",
		"3 - 3":                        "0",
		"0 - 0":                        "0",
		"-0 + 0":                       "0",
		"0 - 5":                        "-5",
		"007 + 0":                      "7",
		"-007 - 0":                     "-7",
		"-00 + -00":                    "0",
		"6 * 7":                        "42",
		"6 * -7":                       "-42",
		"-6 * 7":                       "-42",
		"-6 * -7":                      "42",
		"0 * -7":                       "0",
		"-7 * 0":                       "0",
		"7 / 2":                        "3",
		"-7 / 2":                       "-3",
		"7 / -2":                       "-3",
		"-7 / -2":                      "3",
		"1 / 2":                        "0",
		"-1 / 2":                       "0",
		"0 / -5":                       "0",
		"7 % 2":                        "1",
		"-7 % 2":                       "-1",
		"7 % -2":                       "1",
		"-7 % -2":                      "-1",
		"6 % 3":                        "0",
		"-6 % 3":                       "0",
		"1 % 5":                        "1",
		"-1 % 5":                       "-1",
		"0 % -5":                       "0",
		greatest + " + 0":              greatest,
		greatest + " + -1":             "9223372036854775806",
		"-1 + " + greatest:             "9223372036854775806",
		"9223372036854775806 + 1":      greatest,
		"1 + 9223372036854775806":      greatest,
		least + " + 0":                 least,
		least + " + 1":                 "-9223372036854775807",
		"-9223372036854775807 + -1":    least,
		"-1 + -9223372036854775807":    least,
		greatest + " + " + least:       "-1",
		least + " + " + greatest:       "-1",
		least + " - 0":                 least,
		least + " - -1":                "-9223372036854775807",
		"-9223372036854775807 - 1":     least,
		"-1 - " + greatest:             least,
		"-1 - " + least:                greatest,
		"0 - " + greatest:              "-9223372036854775807",
		greatest + " - " + greatest:    "0",
		least + " - " + least:          "0",
		"9223372036854775806 - -1":     greatest,
		greatest + " - 0":              greatest,
		greatest + " * 1":              greatest,
		greatest + " * -1":             "-9223372036854775807",
		"-1 * " + greatest:             "-9223372036854775807",
		least + " * 1":                 least,
		"1 * " + least:                 least,
		least + " * 0":                 "0",
		"0 * " + least:                 "0",
		"3037000499 * 3037000499":      "9223372030926249001",
		"-3037000499 * 3037000499":     "-9223372030926249001",
		"2147483648 * -4294967296":     least,
		"-4611686018427387904 * 2":     least,
		"2 * -4611686018427387904":     least,
		"4611686018427387903 * 2":      "9223372036854775806",
		"7 * 1317624576693539401":      greatest,
		least + " / 1":                 least,
		least + " / 2":                 "-4611686018427387904",
		least + " / " + least:          "1",
		least + " / " + greatest:       "-1",
		greatest + " / " + least:       "0",
		greatest + " / -1":             "-9223372036854775807",
		"-9223372036854775807 / -1":    greatest,
		least + " % 1":                 "0",
		least + " % -1":                "0",
		least + " % 10":                "-8",
		least + " % -10":               "-8",
		least + " % " + greatest:       "-1",
		greatest + " % " + least:       greatest,
		greatest + " % 10":             "7",
		"000" + greatest + " - 1":      "9223372036854775806",
		"-000" + greatest[:3] + " * 1": "-922",
	} {
		tells(t, args, value, map[bool]int{true: 1}[value == "0"])
	}
}

// What is above or below what a number may be, or by 0.
func TestBeyond(t *testing.T) {
	for _, args := range []string{
		greatest + " + 1", "1 + " + greatest, greatest + " + " + greatest, "4611686018427387904 + 4611686018427387904",
		least + " + -1", "-1 + " + least, least + " + " + least, "-4611686018427387905 + -4611686018427387904",
		least + " - 1", "-2 - " + greatest, least + " - " + greatest,
		greatest + " - -1", "0 - " + least, "1 - " + least, greatest + " - " + least,
		greatest + " * 2", "2 * " + greatest, greatest + " * -2", greatest + " * " + greatest, greatest + " * " + least, least + " * " + greatest, least + " * " + least,
		least + " * -1", "-1 * " + least, least + " * 2", "2 * " + least, "-2 * " + least, "4611686018427387904 * 2", "-4611686018427387904 * -2", "-4611686018427387905 * 2",
		"3037000500 * 3037000500", "-3037000500 * 3037000500", "4294967296 * 4294967296", "4294967296 * 2147483648", "-4294967296 * -2147483648", "4294967297 * 4294967297", "9223372036854775806 * 3",
		least + " / -1",
		"1 / 0", "0 / 0", "-1 / 0", least + " / 0", greatest + " / -0", "5 / 000",
		"1 % 0", "0 % 0", "-1 % 0", least + " % 0", greatest + " % 00", "5 % -0",
		"( 1 / 0 )", "1 + 1 / 0", "1 / ( 2 - 2 )", "1 / 0 = 1", greatest + " + 1 - 1", "( " + least + " / -1 ) : .*",
	} {
		says(t, args, noNumber)
	}
}

// Terms that are no numbers: the first one is told.
func TestNoTerms(t *testing.T) {
	for _, s := range noNumbers() {
		if s == "(" || s == ")" {
			continue // no values
		}
		line := "expr: " + ofText(s, noNumber) + "\n"
		for _, sign := range []string{"+", "-", "*", "/", "%"} {
			for _, l := range [][]string{{s, sign, "1"}, {"-1", sign, s}, {s, sign, "other"}, {s, sign, s}, {s, sign, "0"}, {"1", "|", s, sign, "2"}, {"(", "3", sign, s, ")", "=", "4"}} {
				comes(t, jobOf(append([]string{"expr"}, l...)...), "", line, 2)
			}
			comes(t, jobOf("expr", "other", sign, s), "", "expr: other: not a number\n", 2)
		}
	}
}

// Of several things that go wrong the first one is told: values are reckoned from the left on, each as soon as both its sides are known.
func TestTheFirstThing(t *testing.T) {
	for args, errs := range map[string]string{
		"a + b":                        "a: not a number",
		"1 + b":                        "b: not a number",
		"a + 1":                        "a: not a number",
		"a + 1 + b":                    "a: not a number",
		"1 + a + b":                    "a: not a number",
		"a + 1 / 0":                    noNumber,
		"1 / 0 + a":                    noNumber,
		"1 / 0 * a":                    noNumber,
		"a / 0":                        "a: not a number",
		"1 / a / 0":                    "a: not a number",
		"a * 1 | b * 1":                "a: not a number",
		"1 / 0 | b * 1":                noNumber,
		"b * 1 | 1 / 0":                "b: not a number",
		"1 | ( 1 / 0 ) & a + 1":        noNumber,
		"a + b * c":                    "b: not a number",
		"( a + b ) * c":                "a: not a number",
		"a = b + c":                    "b: not a number",
		"x : [ + 1":                    "[: bad regular expression",
		"1 + x : [":                    "[: bad regular expression",
		"a + x : [":                    "[: bad regular expression",
		"( a + x ) : [":                "a: not a number",
		"x : [ : \\":                   "[: bad regular expression",
		"x : ( y : [ )":                "[: bad regular expression",
		"( x : [ ) + ( 1 / 0 )":        "[: bad regular expression",
		"( 1 / 0 ) + ( x : [ )":        noNumber,
		greatest + " + 1 + a":          noNumber,
		"a + ( " + greatest + " + 1 )": noNumber,
		"( ( a - 1 ) )":                "a: not a number",
		" + a":                         noNumber,
		"1 -  ":                        usage,
	} {
		says(t, args, errs)
	}
}

// An expression that stands at a text's beginning, and how many bytes it finds there.
func TestMatches(t *testing.T) {
	for _, c := range []struct{ text, expr, value string }{
		{"abc", "ab*", "2"},
		{"abc", "a", "1"},
		{"abc", "abc", "3"},
		{"abc", "b", "0"},
		{"abc", "bc", "0"},
		{"abc", "abcd", "0"},
		{"abc", "", "0"},
		{"", "", "0"},
		{"", "a", "0"},
		{"", "a*", "0"},
		{"", ".*", "0"},
		{"", "^$", "0"},
		{"abc", ".", "1"},
		{"abc", ".*", "3"},
		{"abc", ".*b", "2"},
		{"abab", ".*b", "4"}, // as many as can be
		{"aab", "a*", "2"},
		{"aab", "a*ab", "3"},
		{"aab", "a*b*", "3"},
		{"baa", "a*", "0"},
		{"abc", "[a-c]*", "3"},
		{"abc", "[^b]*", "1"},
		{"007", "[0-9]*", "3"},
		{"12ab", "[[:digit:]]*", "2"},
		{"-12", "-", "1"},
		// The beginning, and the end.
		{"abc", "^abc", "3"},
		{"abc", "^b", "0"},
		{"abc", "abc$", "3"},
		{"abc", "ab$", "0"},
		{"abc", "^abc$", "3"},
		{"abc", "$", "0"},
		{"a$b", "a$b", "3"},
		{"a$", "a$", "0"},
		{"a", "a$", "1"},
		{"a^b", "a^b", "3"},
		{"^a", "^a", "0"},
		{"^a", "^^a", "2"},
		{"^a", `\^a`, "2"},
		{"a$", `a\$`, "2"},
		{"a$b", "a$*b", "3"},
		{"a$$$b", "a$*b", "5"},
		// A `*` at its beginning is that byte.
		{"*a", "*", "1"},
		{"*a", "*a", "2"},
		{"a", "*", "0"},
		{"aa", "*a", "0"},
		{"***", "**", "3"},
		{"*a", "^*a", "2"},
		{"a*", `a\*`, "2"},
		// Parentheses, also such as end and begin those that are around it.
		{"aabb", `\(a*\)b`, "3"},
		{"ababc", `\(ab\)*`, "4"},
		{"ababc", `\(ab\)\{2\}`, "4"},
		{"aab", `a\{2\}`, "2"},
		{"aaab", `a\{1,2\}`, "2"},
		{"aaab", `a\{2,\}`, "3"},
		{"ab", `\(\)`, "0"},
		{"ab", `\(*\)`, "0"},
		{"*b", `\(*\)`, "1"},
		{"ab", `\(^a\)`, "1"},
		{"ab", `a\(^b\)`, "0"},
		{"abc", `a\)b\(c`, "3"},
		{"aabb", `a\)*\(b*`, "4"},
		{"aabb", `\)a*\(`, "2"},
		{"bb", `a\)*\(b`, "1"},
		{`a\)`, `a\)\`, "3"}, // its backslash stands ahead of the one around it
		{"(a)", "(a)", "3"},
		{"a{2}", "a{2}", "4"},
		{"a|b", "a|b", "3"},
		{"a+", "a+", "2"},
		{"aa+", "a+", "0"},
		{"a?", "a?", "2"},
		{"aab", `\(a\)\(a\)b`, "3"},
		// By bytes.
		{"ä", ".", "1"},
		{"ä", "..", "2"},
		{"ä", "ä", "2"},
		{"ää", "ä*", "2"},
		{"\xff\xfe", "\xff.", "2"},
		{"a\nb", "a.b", "3"},
		{"a\nb", ".*", "3"},
		{"a\nb", "a$", "0"},
		{"a\nb", "a\n", "2"},
		{"a\x00b", "a\x00", "2"},
		{" a", " ", "1"},
		{"a b", "a b", "3"},
		{"ABC", "abc", "0"},
		// Numbers are texts there.
		{"10", "1", "1"},
		{"010", "10", "0"},
		{"-5", "5", "0"},
		{"12", "..", "2"},
	} {
		status := 0
		if c.value == "0" {
			status = 1
		}
		anyhow(t, []string{"expr", c.text, ":", c.expr}, 1, c.value+"\n", "", status)
	}
	long := strings.Repeat("ab", 3000)
	anyhow(t, []string{"expr", long, ":", `\(ab\)*`}, 1, "6000\n", "", 0)
	anyhow(t, []string{"expr", long, ":", ".*a"}, 1, "5999\n", "", 0)
	anyhow(t, []string{"expr", long, ":", `\(.*\)*$`}, 1, "6000\n", "", 0)
	anyhow(t, []string{"expr", long + "c", ":", `\(\(a*b*\)*\)*$`}, 1, "0\n", "", 1)
}

// One that may not be, or is too great, as it stands between what is put around it.
func TestMatchesThatMayNotBe(t *testing.T) {
	for _, s := range []string{"[", "[a", "a[", "[]", "[^]", "[z-a]", "[[:none:]]", `\`, `a\`, `\(`, `\)`, `\(a`, `a\)`, `\(\(a\)`, `a\)\(` + `\)`, `\{1\}`, `\(\{1\}`, `a\{2,1\}`, `a\{256\}`, `a\{`, `a\{1`, `a\{1\`, `a\{,1\}`, "a**", `a*\{2\}`, `\a`, `\1`, `\(a\)\1`, `\{`, `\}`, `^\{1\}`, "a\\\xff\\"} {
		anyhow(t, []string{"expr", "abc", ":", s}, 1, "", "expr: "+s+": bad regular expression\n", 2)
		anyhow(t, []string{"expr", "", ":", s}, 1, "", "expr: "+s+": bad regular expression\n", 2)
		anyhow(t, []string{"expr", "(", "abc", ":", s, ")", "|", "1"}, 1, "", "expr: "+s+": bad regular expression\n", 2)
	}
	// One that may be alone may be too great with what is put around it.
	fits := strings.TrimSuffix(justGreat, "a")
	for s, isTooGreat := range map[string]bool{great: true, justGreat: true, fits: false, strings.Repeat("x", 9997): false, strings.Repeat("x", 9998): true} {
		_, e := regex.Parse(s, false, false)
		if s != great && e != api.OK {
			t.Errorf("%.20s: alone: error %d", s, e)
		}
		if isTooGreat {
			anyhow(t, []string{"expr", "abc", ":", s}, 1, "", "expr: "+s+": too many\n", 2)
		} else {
			anyhow(t, []string{"expr", "abc", ":", s}, 1, "0\n", "", 1)
		}
	}
	anyhow(t, []string{"expr", strings.Repeat("a", 255*39+12), ":", fits}, 1, strconv.Itoa(255*39+12)+"\n", "", 0)
}
