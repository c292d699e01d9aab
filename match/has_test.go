package match_test

import (
	"bytes"
	"strings"
	"testing"

	"toolchest/match"
	"toolchest/regex"
)

// P16.3

func TestHas(t *testing.T) {
	for _, x := range []struct {
		h    how
		s, b string
		want bool
	}{
		{basic, "", "", true}, {basic, "", "a", true}, {basic, `\(\)`, "a", true},
		{basic, "a", "", false}, {basic, "a", "a", true}, {basic, "a", "bba", true}, {basic, "a", "bbb", false}, {basic, "ab", "aab", true}, {basic, "ab", "ba", false},
		{basic, "a*", "b", true}, {basic, "a*", "", true}, {basic, `\(ab\)\{2\}`, "aabab", true}, {basic, `\(ab\)\{2\}`, "abaab", false},
		{basic, ".", "", false}, {basic, ".", "\n", true}, {basic, "..", "a", false}, {basic, "[^a]", "aaa", false}, {basic, "[^a]", "aa\x00", true}, {basic, "[^a]", "\xff", true}, {basic, noByte, "abc", false}, {basic, noByte + "*", "abc", true},
		{basic, "^a", "ab", true}, {basic, "^a", "ba", false}, {basic, "a$", "ba", true}, {basic, "a$", "ab", false}, {basic, "^$", "", true}, {basic, "^$", "\n", false}, {basic, "^", "x", true}, {basic, "$", "x", true}, {basic, "^a*$", "aaa", true}, {basic, "^a*$", "aba", false},
		{extended, "a|b", "cb", true}, {extended, "a|b", "cd", false}, {extended, "^a|b$", "ab", true}, {extended, "^a|b$", "bxa", false}, {extended, "a+b?c{2}", "xaacc", true}, {extended, "a+b?c{2}", "xaabbcc", false}, {extended, "a{3}", "aabaa", false}, {extended, "a{3}", "aabaaa", true}, {extended, "(a|ab)(c|bcd)$", "abcd", true}, {extended, "(^a|$)b", "bab", false}, {extended, "b(^a|$)", "bab", true},
		{extendedFold, "ab", "xAB", true}, {extendedFold, "[^a]", "AaA", false}, {basicFold, `A\{2\}`, "aA", true}, {basicFold, "\xe4", "\xc4", false},
	} {
		p := x.h.prog(t, x.s)
		if got := p.Has([]byte(x.b)); got != x.want {
			t.Errorf("%q in %q: %v", x.s, x.b, got)
		}
		if _, _, found := p.Find([]byte(x.b), 0); found != x.want {
			t.Errorf("%q is found in %q: %v", x.s, x.b, found)
		}
	}
	for _, b := range [][]byte{nil, {}} {
		if match.New(regex.Any(nil)).Has(b) || !match.New(regex.Literal("", true)).Has(b) || match.New(regex.Literal("a", true)).Has(b) || !match.New(regex.Whole(regex.Literal("", false))).Has(b) {
			t.Errorf("Has of no bytes, nil: %v", b == nil)
		}
	}
}

// Expressions that could be stood for in very many ways, most of which lead nowhere.
func TestManyWays(t *testing.T) {
	inTime(t, "what could be stood for in many ways", func() {
		for _, s := range []string{
			"(a*)*", "(a+)+", "(a|a)*", "(a|aa)*", "(a*|a)*", "((a*)*)*", "(a?)*", "(a*a*)*", "(a|a?)+", "(a+a+)+", "(a{1,2}){1,200}", "(a{0,9}){20}", "(aa?){80}", "(a|a|a|a)*", "((a|b)*|(b|a)*)*", "a*a*a*a*a*a*a*a*", "(.*)(.*)(.*)(.*)(.*)", "(a?){90}a{90}", "(a*){90}", "((a*){9}){9}", "(a{0}|a)*", "((a|(a|(a|a)*)*)*)*", "(^|a|$)*", "(a$|a|^a)*",
		} {
			for _, n := range []int{30, 60, 90, 150} {
				b := bytes.Repeat([]byte("a"), n)
				finds(t, extended.prog(t, "("+s+")x"), b, 0, "")
				finds(t, extended.prog(t, "x("+s+")"), b, 0, "")
				finds(t, extended.prog(t, "("+s+")x"), append(b, 'y'), 0, "")
				if n <= 60 {
					follows(t, extended.re(t, s), b, append(b, 'b'))
					follows(t, extended.re(t, "("+s+")(b|$)"), b, append(b, 'b'))
				}
			}
		}
	})
}

// Expressions of nearly the greatest size.
func TestGreatExpressions(t *testing.T) {
	many := func(s string, n int) string { return strings.Repeat(s, n) }
	inTime(t, "what is found of great expressions", func() {
		for _, x := range []struct {
			s, b string
			want string
		}{
			{"(a{100}){99}", many("a", 9899), ""}, {"(a{100}){99}", many("a", 9900), "0-9900"}, {"(a{100}){99}", many("a", 3000) + "b" + many("a", 3000), ""}, {"(([ab]{9}c){30}){27}", many("ababababac", 950), "0-8100"},
			{"(a{0,100}){0,99}", many("a", 1500), "0-1500"}, {"(a{0,100}){0,99}", many("a", 1500) + "b", "0-1500"}, {"((a|b){0,40}){0,80}$", many("ab", 700), "0-1400"}, {"((a|b){0,40}){0,80}x", many("ab", 50), ""},
			{"(a{100,}){99}", many("a", 600), ""}, {"(a{100,}b){97}", many(many("a", 100)+"b", 97), "0-9797"},
			{many("a", 9999), many("a", 9999), "0-9999"}, {many("a", 9999), many("a", 9998), ""}, {many("a", 9999), many("a", 2000) + "b" + many("a", 2000), ""}, {many("ab", 4999), "a" + many("ab", 5000), "1-9999"},
			{many("a?", 4999), many("a", 1000), "0-1000"}, {many("a?", 4999) + "b", many("a", 100), ""}, {many("a?", 3000) + many("a", 3000), many("a", 3000), "0-3000"}, {many("a*", 4999), many("a", 1000), "0-1000"}, {many("a*", 4999) + "b", many("a", 100), ""},
			{"b" + many("|a", 9998), many("c", 1000) + "a", "1000-1001"}, {"a" + many("|a", 9998), many("b", 1000), ""}, {"a" + many("|ab", 3300), many("b", 1000) + "ab", "1000-1002"},
			{many("(", 9999) + "a" + many(")*", 9999), many("a", 1000), "0-1000"}, {many("(", 9990) + "a" + many(")*", 9990) + "b", many("a", 60), ""}, {many("(", 9999) + "a" + many(")?", 9999), "a", "0-1"}, {many("(", 9999) + "a" + many(")+", 9999), many("a", 1000), "0-1000"},
			{many("(a|", 4999) + "b" + many(")", 4999), many("c", 1000) + "b", "1000-1001"}, {many("(a", 4999) + many(")", 4999), many("a", 5000), "0-4999"}, {many("(a?", 3333) + many(")", 3333), many("a", 1000), "0-1000"}, {many("(a", 3333) + many(")?", 3333), many("a", 4000), "0-3333"}, {many("(a", 3333) + many(")*", 3333), many("a", 1000), "0-1000"},
		} {
			finds(t, extended.prog(t, x.s), []byte(x.b), 0, x.want)
		}
	})
}
