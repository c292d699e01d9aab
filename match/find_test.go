package match_test

import (
	"bytes"
	"math"
	"strings"
	"testing"

	"toolchest/match"
	"toolchest/regex"
)

// P16.2

func TestExamples(t *testing.T) {
	extended.rows(t, row{"a|ab", "xab", 0, "1-3"}, row{"^a", "aa", 1, ""})
	basic.rows(t, row{"b*", "abb", 0, "0-0"}, row{"b*", "abb", 1, "1-3"}, row{"^a", "aa", 1, ""})
}

func TestFrom(t *testing.T) {
	const b = "abcabc"
	least, most := math.MinInt, math.MaxInt
	for _, h := range []how{basic, extended} {
		h.rows(t,
			row{"a", b, least, "0-1"}, row{"a", b, -7, "0-1"}, row{"a", b, -1, "0-1"}, row{"a", b, 0, "0-1"},
			row{"a", b, 1, "3-4"}, row{"a", b, 2, "3-4"}, row{"a", b, 3, "3-4"},
			row{"a", b, 4, ""}, row{"a", b, 5, ""}, row{"a", b, 6, ""}, row{"a", b, 7, ""}, row{"a", b, most, ""},
			row{"c", b, 5, "5-6"}, row{"c", b, 6, ""}, row{"bc", b, 1, "1-3"}, row{"bc", b, 2, "4-6"}, row{"bc", b, 5, ""},
			row{"x*", b, least, "0-0"}, row{"x*", b, -1, "0-0"}, row{"x*", b, 0, "0-0"}, row{"x*", b, 1, "1-1"}, row{"x*", b, 5, "5-5"}, row{"x*", b, 6, "6-6"}, row{"x*", b, 7, ""}, row{"x*", b, 8, ""}, row{"x*", b, most, ""}, row{"x*", b, most - 1, ""},
			row{"c*", b, 5, "5-6"}, row{"c*", b, 6, "6-6"},
			row{"$", b, -1, "6-6"}, row{"$", b, 0, "6-6"}, row{"$", b, 3, "6-6"}, row{"$", b, 6, "6-6"}, row{"$", b, 7, ""},
			row{"^", b, least, "0-0"}, row{"^", b, -1, "0-0"}, row{"^", b, 0, "0-0"}, row{"^", b, 1, ""}, row{"^", b, 6, ""}, row{"^", b, 7, ""},
			row{"^$", "", least, "0-0"}, row{"^$", "", 0, "0-0"}, row{"^$", "", 1, ""}, row{"^$", "", most, ""},
			row{"a*", "", -1, "0-0"}, row{"a*", "", 0, "0-0"}, row{"a*", "", 1, ""}, row{"a", "", 0, ""}, row{"a", "", 1, ""}, row{"a", "", -1, ""},
			row{".", b, 2, "2-3"}, row{".*", b, 2, "2-6"}, row{".*", b, 6, "6-6"},
			row{noByte, b, 0, ""}, row{noByte, b, 6, ""}, row{noByte + "*", b, 2, "2-2"},
		)
	}
	basic.rows(t, row{"", b, 0, "0-0"}, row{"", b, 4, "4-4"}, row{"", b, 6, "6-6"}, row{"", b, 7, ""}, row{"", "", 0, "0-0"}, row{"", "", 1, ""})
}

// The beginning is that of the bytes, wherever it is looked for from.
func TestBeginningFromLaterOn(t *testing.T) {
	extended.rows(t,
		row{"^a", "aaa", 0, "0-1"}, row{"^a", "aaa", 1, ""}, row{"^a", "aaa", 2, ""},
		row{"^|b", "abb", 0, "0-0"}, row{"^|b", "abb", 1, "1-2"}, row{"^|b", "abb", 2, "2-3"}, row{"^|b", "abb", 3, ""},
		row{"^a|aa", "aaa", 0, "0-2"}, row{"^a|aa", "aaa", 1, "1-3"},
		row{"(^a|b)c", "acbc", 0, "0-2"}, row{"(^a|b)c", "acbc", 1, "2-4"}, row{"(^|x)a", "aaxa", 1, "2-4"},
		row{"(^a)*b", "ab", 0, "0-2"}, row{"(^a)*b", "ab", 1, "1-2"}, row{"(^a)?", "ab", 1, "1-1"},
		row{"^$", "a", 0, ""}, row{"^$", "a", 1, ""}, row{"^a*$", "aa", 0, "0-2"}, row{"^a*$", "aa", 1, ""}, row{"^a*$", "aa", 2, ""},
	)
	p := match.New(regex.Whole(regex.Literal("aa", false)))
	finds(t, p, []byte("aa"), -3, "0-2")
	finds(t, p, []byte("aa"), 0, "0-2")
	finds(t, p, []byte("aa"), 1, "")
	finds(t, p, []byte("aa"), 2, "")
	finds(t, p, []byte("aaa"), 0, "")
	finds(t, p, []byte("a"), 0, "")
}

// What stands for nothing, at the first place, at a later one, at the end.
func TestNothing(t *testing.T) {
	extended.rows(t,
		row{"x*", "abc", 0, "0-0"}, row{"x*", "xbc", 0, "0-1"}, row{"x*", "axx", 0, "0-0"}, row{"x*", "axx", 1, "1-3"}, row{"x*", "axx", 3, "3-3"},
		row{"x?", "xx", 0, "0-1"}, row{"x?", "ax", 0, "0-0"}, row{"x?", "ax", 2, "2-2"},
		row{"b|a{0}", "ab", 0, "0-0"}, row{"b|a{0}", "ab", 1, "1-2"}, row{"b|a{0}", "ab", 2, "2-2"},
		row{"$", "abc", 0, "3-3"}, row{"a*$", "aab", 0, "3-3"}, row{"a*$", "baa", 0, "1-3"}, row{"a*$", "aba", 0, "2-3"}, row{"a*$", "aba", 3, "3-3"}, row{"b*$", "abab", 1, "3-4"},
		row{"b|$", "aab", 0, "2-3"}, row{"b|$", "aab", 3, "3-3"}, row{"b|$", "aa", 0, "2-2"},
		row{"^|b", "ab", 0, "0-0"}, row{"^b*", "abb", 0, "0-0"}, row{"^b*", "bba", 0, "0-2"},
		row{"(a|b)*", "cab", 0, "0-0"}, row{"(a|b)*", "cab", 1, "1-3"}, row{"(a|b)*", "abc", 0, "0-2"},
		row{"(ab)*", "aba", 0, "0-2"}, row{"(ab)*", "aba", 1, "1-1"}, row{"(ab)*", "aba", 2, "2-2"}, row{"(ab)*", "aba", 3, "3-3"},
	)
}

// The first place, also where what begins there is shorter than what begins later on, or is only there when something else has ended.
func TestFirst(t *testing.T) {
	extended.rows(t,
		row{"a|bbb", "cabbb", 0, "1-2"}, row{"a|bbb", "cbabbb", 0, "2-3"}, row{"bbb|a", "abbb", 0, "0-1"}, row{"bbb|a", "abbb", 1, "1-4"},
		row{"b+|a", "abbb", 0, "0-1"}, row{"a*|b*", "bbbaaaa", 0, "0-3"}, row{"[ab]|bc*", "abccc", 0, "0-1"},
		row{"abcd|c", "abcd", 0, "0-4"}, row{"abcd|c", "abcx", 0, "2-3"}, row{"abcd|bc", "abcd", 0, "0-4"}, row{"abcd|bc", "abcc", 0, "1-3"}, row{"c|abcd", "abcd", 0, "0-4"}, row{"abcd|bc|c", "abcd", 1, "1-3"}, row{"abcd|bc|c", "abcd", 2, "2-3"},
		row{"abcde|cd", "abcdx", 0, "2-4"}, row{"abcde|bcd|c", "abcdx", 0, "1-4"}, row{"abcde|bcdx|cd", "abcdx", 0, "1-5"}, row{"abcdefg|bcdefx|cde|d", "abcdefg", 0, "0-7"}, row{"abcdefg|bcdefx|cde|d", "abcdefx", 0, "1-7"}, row{"abcdefg|bcdefx|cde|d", "abcdef", 0, "2-5"}, row{"abcdefg|bcdefx|cde|d", "abcd", 0, "3-4"},
		row{"ab.*z|c|cd", "abcd", 0, "2-4"}, row{"ab.*z|c", "abcz", 0, "0-4"}, row{"ab.*z|c|cc", "abccccz", 0, "0-7"}, row{"ab.*z|c|cc", "abcccc", 0, "2-4"}, row{"a.*z|b+|c+", "abbbccczc", 0, "0-8"}, row{"a.*z|b+|c+", "abbbcccc", 0, "1-4"},
		row{"a*b", "aaab", 0, "0-4"}, row{"a*b", "aaab", 2, "2-4"}, row{"a*b", "aacab", 0, "3-5"}, row{"a+b|a", "aaac", 0, "0-1"}, row{"a*b|a", "aaac", 0, "0-1"}, row{"a*b|aa", "aaac", 0, "0-2"}, row{"a*b|aa", "aaab", 0, "0-4"},
		row{"(a|b)*c|b", "abab", 0, "1-2"}, row{"(a|b)*c|b", "ababc", 0, "0-5"}, row{"(a|b)*c|bab", "ababa", 0, "1-4"},
		row{"a.{3}|b", "xaba", 0, "2-3"}, row{"a.{3}|b", "xabab", 0, "1-5"}, row{"a.{2}x|.y", "abyyx", 0, "1-3"}, row{"a.{3}x|.y", "abyyx", 0, "0-5"},
		row{"[^a]*a$", "bababa", 0, "4-6"}, row{"[^a]*a$|b", "babab", 0, "0-1"}, row{"(ba)*$", "babab", 0, "5-5"}, row{"(ba)+$", "bbaba", 0, "1-5"},
	)
}

// The longest one of several from one place, whichever comes first in the expression.
func TestLongest(t *testing.T) {
	for _, x := range []struct {
		branches []string
		b, want  string
	}{
		{[]string{"a", "ab", "abc"}, "abcd", "0-3"},
		{[]string{"a", "ab", "abc"}, "abd", "0-2"},
		{[]string{"a", "ab", "abc"}, "ad", "0-1"},
		{[]string{"ab", "a.c", ".{4}"}, "abc", "0-3"},
		{[]string{"ab", "a.c", ".{4}"}, "abcd", "0-4"},
		{[]string{"a{0}", "a", "a+"}, "aaab", "0-3"},
		{[]string{"a*", "a{2}", "aab"}, "aaab", "0-3"},
		{[]string{"a*", "a{2}", "aab"}, "aab", "0-3"},
		{[]string{"a*b", "a*", "a{5}"}, "aaaaab", "0-6"},
		{[]string{"a", "ab$", "^abc"}, "abc", "0-3"},
		{[]string{"a", "ab$", "^abc"}, "ab", "0-2"},
		{[]string{"one", "onetwo", "on"}, "onetwothree", "0-6"},
	} {
		l := x.branches
		for _, order := range [][]int{{0, 1, 2}, {0, 2, 1}, {1, 0, 2}, {1, 2, 0}, {2, 0, 1}, {2, 1, 0}} {
			extended.rows(t, row{l[order[0]] + "|" + l[order[1]] + "|" + l[order[2]], x.b, 0, x.want})
		}
	}
	extended.rows(t,
		row{"(a|ab)(c|bcd)(d*)", "abcd", 0, "0-4"}, row{"(a|ab)(bcd|c)", "abcd", 0, "0-4"}, row{"(a|ab)(c|bcd)", "abce", 0, "0-3"},
		row{"a*(a|ab)", "aab", 0, "0-3"}, row{"(a|ab)*", "ababaab", 0, "0-7"}, row{"(a|aa)b?", "aab", 0, "0-3"}, row{"(aa|aaa)*", "aaaaa", 0, "0-5"}, row{"(aa|aaa)*", "aaaaaaa", 0, "0-7"}, row{"(aaa|aaaaa)*", "aaaaaaa", 0, "0-6"},
		row{"one(self)?(selfsufficient)?", "oneselfsufficient", 0, "0-17"}, row{"a?(ab)?", "ab", 0, "0-2"}, row{"(a?)(ab)?(abcd)?", "abcd", 0, "0-4"},
		row{"a.*b|a", "axbxbx", 0, "0-5"}, row{"a.*b|a", "axxx", 0, "0-1"}, row{"[a-c]+", "xxabcabcxa", 0, "2-8"}, row{"[a-c]{2,4}", "xabcabc", 0, "1-5"}, row{"a{2,}", "abaab" + strings.Repeat("a", 9), 0, "2-4"},
	)
}

// Bytes of each kind.
func TestBytes(t *testing.T) {
	for _, b := range [][]byte{nil, {}} {
		for _, h := range []how{basic, extended} {
			for s, want := range map[string]string{"a": "", "a*": "0-0", "^": "0-0", "$": "0-0", "^$": "0-0", "^a*$": "0-0", ".": "", noByte: "", noByte + "*": "0-0"} {
				p := h.prog(t, s)
				finds(t, p, b, 0, want)
				finds(t, p, b, -1, want)
				finds(t, p, b, 1, "")
			}
		}
		finds(t, basic.prog(t, ""), b, 0, "0-0")
		finds(t, match.New(regex.Any(nil)), b, 0, "")
	}
	extended.rows(t,
		row{"\x00", "a\x00b", 0, "1-2"}, row{"\x00+", "a\x00\x00", 0, "1-3"}, row{"[^\x00]+", "\x00ab\x00", 0, "1-3"}, row{"\x00$", "\x00\x00", 0, "1-2"}, row{"^\x00", "\x00", 0, "0-1"}, row{"a\x00b", "a\x00b", 0, "0-3"},
		row{"\x80", "\x7f\x80", 0, "1-2"}, row{"[\x80-\xff]+", "a\x80\xc3\xff\x7f", 0, "1-4"}, row{".", "\xff", 0, "0-1"}, row{"\xff*", "\xff\xff\xfe", 0, "0-2"},
		row{".", "\xc3\xa4", 0, "0-1"}, row{".", "\xc3\xa4", 1, "1-2"}, row{"\xa4", "\xc3\xa4", 0, "1-2"}, row{"\xc3\xa4", "\xc3\xa4", 0, "0-2"}, row{"^.$", "\xc3\xa4", 0, ""}, row{"[\xc3\xa4]", "\xc3\xa4", 1, "1-2"},
		row{".", "\n", 0, "0-1"}, row{".*", "a\nb\n", 0, "0-4"}, row{"^b", "a\nb", 0, ""}, row{"a$", "a\nb", 0, ""}, row{"b$", "a\nb\n", 0, ""}, row{"$", "\n", 0, "1-1"}, row{"\n$", "a\n\n", 0, "2-3"}, row{"^\n", "\n\n", 0, "0-1"}, row{"a\nb", "a\nb", 0, "0-3"}, row{"[^a]", "a\n", 0, "1-2"},
		row{"\r\n", "a\r\n", 0, "1-3"}, row{" ", "a ", 0, "1-2"}, row{"\t| ", " \t", 0, "0-1"},
	)
	extendedFold.rows(t,
		row{"abc", "xAbC", 0, "1-4"}, row{"ABC", "xabc", 0, "1-4"}, row{"[a-c]+", "xABCabcD", 0, "1-7"}, row{"[^a]+", "aAxXA", 0, "2-4"}, row{"a{3}", "aAa", 0, "0-3"}, row{"(a|B)*", "AabBc", 0, "0-4"}, row{"1", "1", 0, "0-1"}, row{"@", "`", 0, ""}, row{"\\[", "{", 0, ""}, row{"\xe4", "\xc4", 0, ""},
	)
	extended.rows(t, row{"abc", "ABC", 0, ""}, row{"[a-c]+", "ABCabc", 0, "3-6"})
	basicFold.rows(t, row{`\(ab\)*c`, "ABabC", 0, "0-5"}, row{"x", "aX", 0, "1-2"})
}

// Expressions that are made: of texts, of several, of whole bytes.
func TestMade(t *testing.T) {
	for _, x := range []struct {
		r    *regex.Re
		b    string
		want string
	}{
		{regex.Literal("", false), "ab", "0-0"}, {regex.Literal("", false), "", "0-0"},
		{regex.Literal("b", false), "abb", "1-2"}, {regex.Literal("bb", false), "abb", "1-3"}, {regex.Literal("bB", false), "abb", ""}, {regex.Literal("bB", true), "aBb", "1-3"}, {regex.Literal("a*", false), "aaa*", "2-4"}, {regex.Literal("^a$", false), "a^a$", "1-4"}, {regex.Literal("[a]", true), "a[A]", "1-4"}, {regex.Literal(".", false), "a.", "1-2"}, {regex.Literal(`\n`, false), "\n\\n", "1-3"}, {regex.Literal("\x00\xff", true), "\xff\x00\xff", "1-3"}, {regex.Literal("aab", false), "aaab", "1-4"}, {regex.Literal("abab", false), "abaabab", "3-7"},
		{regex.Any(nil), "ab", ""}, {regex.Any(nil), "", ""},
		{regex.Any([]*regex.Re{regex.Literal("b", false)}), "ab", "1-2"},
		{regex.Any([]*regex.Re{regex.Literal("b", false), regex.Literal("bc", false)}), "abc", "1-3"},
		{regex.Any([]*regex.Re{regex.Literal("c", false), regex.Literal("b", false)}), "abc", "1-2"},
		{regex.Any([]*regex.Re{regex.Literal("", false), regex.Literal("bc", false)}), "abc", "0-0"},
		{regex.Any([]*regex.Re{regex.Literal("", false), regex.Literal("ab", false)}), "abc", "0-2"},
		{regex.Any([]*regex.Re{regex.Any(nil), regex.Literal("c", false)}), "abc", "2-3"},
		{regex.Any([]*regex.Re{regex.Any(nil), regex.Any(nil)}), "abc", ""},
		{regex.Any([]*regex.Re{extended.re(t, "x|b+"), basic.re(t, "^b"), regex.Literal("B", true)}), "abbb", "1-4"},
		{regex.Any([]*regex.Re{regex.Whole(regex.Literal("a", false)), regex.Literal("b", false)}), "ab", "1-2"},
		{regex.Whole(regex.Literal("", false)), "", "0-0"}, {regex.Whole(regex.Literal("", false)), "a", ""},
		{regex.Whole(regex.Literal("ab", false)), "ab", "0-2"}, {regex.Whole(regex.Literal("ab", false)), "abb", ""}, {regex.Whole(regex.Literal("ab", false)), "aab", ""}, {regex.Whole(regex.Literal("ab", true)), "AB", "0-2"},
		{regex.Whole(extended.re(t, "a|ab")), "ab", "0-2"}, {regex.Whole(extended.re(t, "a|ab")), "abb", ""}, {regex.Whole(extended.re(t, "a*")), "aaaa", "0-4"}, {regex.Whole(extended.re(t, "a*")), "aaba", ""}, {regex.Whole(extended.re(t, "a|b*")), "", "0-0"},
		{regex.Whole(regex.Any([]*regex.Re{regex.Literal("a", false), regex.Literal("ab", false)})), "ab", "0-2"},
		{regex.Whole(regex.Any(nil)), "", ""}, {regex.Whole(regex.Any(nil)), "a", ""},
		{regex.Whole(regex.Whole(regex.Literal("a", false))), "a", "0-1"}, {regex.Whole(regex.Whole(regex.Literal("a", false))), "aa", ""},
		{regex.Whole(extended.re(t, "^a$")), "a", "0-1"}, {regex.Whole(extended.re(t, "a^")), "a", ""},
	} {
		if !finds(t, match.New(x.r), []byte(x.b), 0, x.want) {
			t.Logf("of %s", x.r)
		}
	}
}

// In long bytes, of which what is looked for is a small part, or the whole.
func TestLongBytes(t *testing.T) {
	const n = 300000
	b := bytes.Repeat([]byte("ab"), n/2)
	inTime(t, "going through long bytes", func() {
		for s, want := range map[string]string{"a": "0-1", "b": "1-2", "c": "", "aa": "", "ba$": "", "ab$": span(n-2, n, true), "b$": span(n-1, n, true), "$": span(n, n, true), "(ab)*": span(0, n, true), ".*": span(0, n, true), "[ab]+": span(0, n, true), "(ab)*a": span(0, n-1, true), "^(ab)*$": span(0, n, true), "^(ba)*$": "", "bb|b": "1-2", "a{2}|c": ""} {
			finds(t, extended.prog(t, s), b, 0, want)
		}
		finds(t, extended.prog(t, "b.*"), b, 100, span(101, n, true))
		finds(t, extended.prog(t, "b.?"), b, n-1, span(n-1, n, true))
		finds(t, extended.prog(t, "b+"), append(b, "bbb"...), n-1, span(n-1, n+3, true))
		finds(t, match.New(regex.Literal(string(b[:4000]), false)), b, 0, span(0, 4000, true))
		finds(t, match.New(regex.Literal(string(b[:4000])+"b", false)), append(b[:6000:6000], "babab"...), 0, span(2000, 6001, true))
	})
}
