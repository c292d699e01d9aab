package order_test

import (
	"strings"
	"testing"

	"toolchest/api"
	"toolchest/order"
)

func TestExamples(t *testing.T) {
	held(t, nil, pair{"b", "a", ">>"})
	held(t, list{"n"}, pair{"10", "9", ">>"})
	held(t, list{"k2"}, pair{"x a", "a b", "<<"})
	held(t, list{"t:", "k2.2n,2"}, pair{"a:x10", "b:x9", ">>"})
	held(t, list{"f"}, pair{"a", "A", "=>"})
}

// P12.1

func TestNoOptions(t *testing.T) {
	for _, l := range [][]api.Opt{nil, {}} {
		o, ok := order.Read(l)
		if !ok || answers(o, "a", "b") != "<<" || answers(o, " b", "a") != "<<" || answers(o, "10", "9") != "<<" || answers(o, "a", "a") != "==" {
			t.Errorf("%v: %v", l, ok)
		}
	}
}

// probes are pairs by which each flag is told from every other one.
var probes = [...][2]string{
	{" b", "a"},    // with b the other way round
	{"(b", "a"},    // with d
	{"a", "B"},     // with f
	{"\x01b", "a"}, // with i
	{"10", "9"},    // with n
	{"x", "y"},     // with r
}

// answersOf are what an order answers of the probes.
func answersOf(o *order.Order) string {
	var all list
	for _, p := range probes {
		all = append(all, answers(o, p[0], p[1]))
	}
	return strings.Join(all, " ")
}

func TestEachFlag(t *testing.T) {
	for _, c := range []struct {
		flags list
		want  string
	}{
		{nil, "<< << >> << << <<"},
		{list{"b"}, ">> << >> << << <<"},
		{list{"d"}, "<< >> >> >> << <<"},
		{list{"f"}, "<< << << << << <<"},
		{list{"i"}, "<< << >> >> << <<"},
		{list{"n"}, "=< =< => =< >> =<"},
		{list{"r"}, ">> >> << >> >> >>"},
		{list{"b", "f"}, ">> << << << << <<"},
		{list{"b", "d", "f"}, ">> >> << >> << <<"},
		{list{"n", "r"}, "=> => =< => << =>"},
		{list{"r", "n"}, "=> => =< => << =>"},
		{list{"i", "f", "b", "r"}, "<< >> >> << >> >>"},
		{list{"r", "r"}, ">> >> << >> >> >>"},
		{list{"n", "d", "f", "i", "b"}, "=< =< => =< >> =<"},
		{list{"d", "d", "d"}, "<< >> >> >> << <<"},
		{list{"rx", "n7"}, "=> => =< => << =>"}, // flags have no argument
	} {
		if got := answersOf(given(t, c.flags...)); got != c.want {
			t.Errorf("%q: %s, not %s", c.flags, got, c.want)
		}
		// The same letters at a key are the same flags, but that what is behind the keys is not turned.
		letters := ""
		for _, s := range c.flags {
			letters += s[:1]
		}
		for _, key := range []string{"k1" + letters, "k1" + letters + ",1", "k1.1" + letters + ",2147483647"} {
			if got := answersOf(given(t, key)); keysAlone(got) != keysAlone(c.want) {
				t.Errorf("%q: %s, not %s", key, got, c.want)
			}
		}
	}
}

// keysAlone is what is told of Keys.
func keysAlone(answers string) string {
	var all list
	for _, two := range strings.Fields(answers) {
		all = append(all, two[:1])
	}
	return strings.Join(all, " ")
}

// A letter that is none of these says nothing, whatever its argument.
func TestLettersThatAreNone(t *testing.T) {
	plain := answersOf(given(t))
	for b := range 256 {
		letter := string([]byte{byte(b)})
		if strings.Contains("bdfinrtk", letter) {
			continue
		}
		for _, arg := range []string{"", "x", "0", "1n", "::", "\xff"} {
			if got := answersOf(given(t, letter+arg)); got != plain {
				t.Errorf("%q: %s, not %s", letter+arg, got, plain)
			}
		}
		held(t, list{letter, "t:", letter + "2", "k2n", letter}, pair{"b:9", "a:10", "<<"})
	}
}

func TestSeparators(t *testing.T) {
	for b := range 256 {
		sep := string([]byte{byte(b)})
		// Fields of letters, of which the separator is none.
		f := strings.Split(strings.ReplaceAll("abcdefg", sep, ""), "")
		held(t, list{"t" + sep, "k2,2"},
			pair{f[1] + sep + f[2] + sep + f[5], f[0] + sep + f[3] + sep + f[4], "<<"},
			pair{f[0] + sep + f[2] + sep + f[1], f[0] + sep + f[2] + sep + f[3], "=<"},
		)
	}
	for _, arg := range []string{"", "::", "ab", ":\x00", "\xc3\xa9", "é", "\\t", strings.Repeat(":", 1000)} {
		refused(t, "t"+arg)
		refused(t, "t:", "t"+arg)
		refused(t, "n", "t"+arg, "k1")
		refused(t, "k1", "k2", "t"+arg)
		held(t, list{"t" + arg, "t:", "k2"}, pair{"b:1", "a:2", "<<"})
		held(t, list{"t" + arg, "t" + arg, "k2", "t:"}, pair{"b:1", "a:2", "<<"})
	}
	held(t, list{"t,", "k2", "t:"}, pair{"b:1,1", "a:2,0", "<<"})
	held(t, list{"t:", "k2", "t,"}, pair{"b:1,1", "a:2,0", ">>"})
}

func TestKeysThatMayBe(t *testing.T) {
	for _, key := range []string{
		"1", "2", "2147483647", "007", "1.1", "1.2147483647", "2147483647.2147483647", "0001.0001",
		"00000000000000000000000000000001.00000000000000000000000000000001",
		"1b", "1d", "1f", "1i", "1n", "1r", "1bdfinr", "1rrr", "1nrn", "1.2b", "1.2rn",
		"1,1", "1,2147483647", "2,1", "1.1,1", "1,1.1", "1.2,3.4", "1,1.0", "1,1.000", "1.5,2147483647.2147483647", "1,1.2147483647",
		"1b,2", "1,2b", "1b,2b", "1n,2r", "1.1b,1.0b", "1.2bdfinr,3.4bdfinr", "1bb,1bb", "9.9,1.0r",
	} {
		given(t, "k"+key)
		given(t, "k1", "k"+key, "k2")
		given(t, "k"+key, "t:", "n")
	}
}

// wrongKeys are texts that are none.
func wrongKeys() list {
	return list{
		"", "0", "00", "0.1", "1.0", "1.00", "0n", "1.0b", "1.0,1", "0,1", "1,0", "1,00", "1,0.1", "1,0.0", "1,0b",
		"2147483648", "1.2147483648", "1,2147483648", "1,1.2147483648", "1.1,1.2147483648n",
		"9223372036854775808", "18446744073709551617", "1.18446744073709551617", "1,18446744073709551617", "1,1.18446744073709551616", "1,1.4294967296", "99999999999999999999999",
		",", "1,", ",1", "1n,", ",1n", "1,n", "1.1,", "1,,2", "1,2,", "1,2,3", ",1,2", ",,", "1n,,2", "1,2n,3",
		".", "1.", "1.b", "1.,2", "1,2.", "1,2.n", ".1", "1,.1", ".", "1..2", "1.2.3", "1,1.2.3", "1.2.", "..",
		"b", "n", "x", "1x", "1nx", "1xn", "1,2x", "1.x", "1.1x", "1,1.1x", "1t", "1k", "1N", "1B", "1R,2", "1g", "1M", "1V", "1z",
		"b1", "n1,2", "1,n2", "1b2", "1b.2", "1n.2b", "1.n2", "1.2n3", "1n1", "1,2n.1",
		" ", " 1", "1 ", "1 n", "1n ", "1, 2", "1 ,2", "1 2", "1 .2", "1. 2", "\t1", "1\t", "1\n", "\n1", "1\x00", "\x001", "1.1\xff",
		"-", "+", "+1", "-1", "1.+1", "1.-1", "1,+1", "1,-1", "1,1.+1", "1,1.-0", "1,1.+0", "-0", "+0", "-1n", "1-2", "1+",
		"1:2", "1;2", "1/2", "0x1", "1_0", "1e1", "1\u00a0", "\u0661", "k1", "-k1", "1k2",
	}
}

func TestKeysThatMayNotBe(t *testing.T) {
	for _, key := range wrongKeys() {
		key = "k" + key
		refused(t, key)
		refused(t, key, "k1")
		refused(t, "k1", key)
		refused(t, "k1", "k2.3n,4", key, "k1b")
		refused(t, "t:", "n", key, "r")
		refused(t, key, "t::")
	}
}

// Every text of up to six of these signs is a key, or none, as an expression tells.
func TestEveryShortKey(t *testing.T) {
	for _, s := range everyText(6, "0", "1", ".", ",", "b", "n", "x") {
		o, ok := order.Read(options("k" + s))
		if want := modelOf(list{"k" + s}) != nil; ok != want || ok != (o != nil) {
			t.Fatalf("%q: %v", s, ok)
		}
	}
}

// Letters at either place are of the key; where it has any, the order's are not.
func TestLettersOfKeys(t *testing.T) {
	for _, c := range []struct {
		options list
		pairs   []pair
	}{
		{list{"n", "k1"}, []pair{{"10", "9", ">>"}}},
		{list{"n", "k1,1"}, []pair{{"10", "9", ">>"}}},
		{list{"k1,1", "n"}, []pair{{"10", "9", ">>"}}},
		{list{"n", "k1.1,1.2"}, []pair{{"10", "9", ">>"}}},
		{list{"k1n"}, []pair{{"10", "9", ">>"}}},
		{list{"k1n,1"}, []pair{{"10", "9", ">>"}}},
		{list{"k1,1n"}, []pair{{"10", "9", ">>"}}},
		{list{"k1n,1n"}, []pair{{"10", "9", ">>"}}},
		{list{"k1n,1r"}, []pair{{"10", "9", "<<"}, {"1", "2", ">>"}}},
		{list{"k1r,1n"}, []pair{{"10", "9", "<<"}, {"1", "2", ">>"}}},
		{list{"n", "k1f"}, []pair{{"10", "9", "<<"}, {"a", "B", "<<"}}},
		{list{"n", "k1,1f"}, []pair{{"10", "9", "<<"}, {"a", "B", "<<"}}},
		{list{"n", "k1b"}, []pair{{"10", "9", "<<"}, {" b", "a", ">>"}}},
		{list{"n", "k1,1b"}, []pair{{"10", "9", "<<"}, {" b", "a", "<<"}}},
		{list{"f", "k1b"}, []pair{{"a", "B", ">>"}}},
		{list{"f", "k1,1b"}, []pair{{"a", "B", ">>"}}},
		{list{"r", "k1f"}, []pair{{"a", "B", "<<"}, {"a", "A", "=<"}}}, // but what is behind the keys is turned
		{list{"r", "k1"}, []pair{{"a", "b", ">>"}}},
		{list{"r", "k1r"}, []pair{{"a", "b", ">>"}}},
		{list{"r", "k1b"}, []pair{{"a", "b", "<<"}, {" a", "a", "=>"}}},
		{list{"k1r"}, []pair{{"a", "b", ">>"}, {"a", "a", "=="}}},
		{list{"k1,1r"}, []pair{{"a", "b", ">>"}, {"a 1", "a 2", "=<"}}},
		// Each key has its own.
		{list{"n", "k1,1", "k2f"}, []pair{{"10 a", "9 a", ">>"}, {"1 a", "01 B", "<<"}, {"1 a", "01 A", "=>"}}},
		{list{"k1,1n", "k2"}, []pair{{"1 a", "01 B", ">>"}, {"9 x", "10 a", "<<"}}},
		{list{"k1,1r", "k2,2"}, []pair{{"a a", "a b", "<<"}, {"a a", "b a", ">>"}}},
		// Of the order's flags b is of both places, else of its own alone.
		{list{"b", "k1.2,1.2"}, []pair{{" xay", "xaz", "=<"}, {"  xa", "xb", "<<"}}},
		{list{"k1.2b,1.2b"}, []pair{{" xay", "xaz", "=<"}, {"  xa", "xb", "<<"}}},
		{list{"k1.2b,1.2"}, []pair{{" xay", "xaz", "<<"}, {"   xa", "xb", "<<"}, {" xa", "  xb", "=>"}}},
		{list{"k1.2,1.2b"}, []pair{{" xay", "xaz", ">>"}, {" xay", " xaz", "=<"}}},
		{list{"k1.2,1.2"}, []pair{{" xay", "xaz", ">>"}, {" xay", " xaz", "=<"}, {" yay", " xaz", ">>"}}},
		// One of any letter takes the order's b away, too.
		{list{"b", "k1f"}, []pair{{" b", "a", "<<"}}},
		{list{"b", "k1,1f"}, []pair{{" b", "a", "<<"}}},
	} {
		held(t, c.options, c.pairs...)
	}
}

// Without a key there is one, from the first field on to the line's end, with the order's flags.
func TestWithoutAKey(t *testing.T) {
	lines := everyText(3, " ", "a", "B", "1", "9", ":", "\xff")
	for _, some := range []list{nil, {"b"}, {"n"}, {"r"}, {"b", "n", "r"}, {"d", "f"}, {"t:"}, {"t:", "b", "f"}, {"ta"}} {
		one, other := given(t, some...), given(t, append(list{"k1"}, some...)...)
		for _, a := range lines {
			for _, b := range lines {
				if answers(one, a, b) != answers(other, a, b) {
					t.Fatalf("%q: %q, %q: %s, not %s", some, a, b, answers(one, a, b), answers(other, a, b))
				}
			}
		}
	}
	held(t, nil, pair{"a b", "a c", "<<"})
	held(t, list{"t:"}, pair{"a:b", "a:c", "<<"})
}

// Of several keys the order is theirs, wherever among the others they stand.
func TestTheOrderOfKeys(t *testing.T) {
	held(t, list{"k2,2", "k1,1"}, pair{"b x", "a y", "<<"}, pair{"b x", "a x", ">>"})
	held(t, list{"k1,1", "k2,2"}, pair{"b x", "a y", ">>"}, pair{"a x", "a y", "<<"})
	held(t, list{"k2,2", "t:", "k1,1", "n"}, pair{"9:2", "10:2", "<<"}, pair{"10:2", "9:3", "<<"})
}

func TestManyOptions(t *testing.T) {
	const many = 100000
	var texts list
	for range many {
		texts = append(texts, "n", "t:", "k2,2n")
	}
	held(t, append(texts, "k1,1"), pair{"a:1", "b:1", "=<"}, pair{"a:1", "b:2", "<<"}, pair{"2:1", "10:1", "<<"})
}
