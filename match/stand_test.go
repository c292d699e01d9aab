package match_test

import (
	"fmt"
	"strings"
	"testing"

	"toolchest/match"
	"toolchest/regex"
)

// P16.1

// pairs are all places from which an expression stands, each with each to which it does. It is asked for with as many bytes ahead and behind, and all of that from the beginning to the end.
func (h how) pairs(t *testing.T, s, b string) string {
	t.Helper()
	form := `^.\{%d\}\(%s\).\{%d\}$`
	if h.ext {
		form = `^.{%d}(%s).{%d}$`
	}
	var l []string
	for a := range len(b) + 1 {
		for z := a; z <= len(b); z++ {
			p := h.prog(t, fmt.Sprintf(form, a, s, len(b)-z))
			if !p.Has([]byte(b)) {
				continue
			}
			finds(t, p, []byte(b), 0, span(0, len(b), true))
			l = append(l, span(a, z, true))
		}
	}
	return strings.Join(l, " ")
}

// modelPairs are these by the model.
func modelPairs(n *regex.Node, b string) string {
	var l []string
	for a := range len(b) + 1 {
		to := stands(n, []byte(b), 1<<a)
		for z := range len(b) + 1 {
			if to&(1<<z) != 0 {
				l = append(l, span(a, z, true))
			}
		}
	}
	return strings.Join(l, " ")
}

// standing is a text, bytes, and from where to where it stands in them.
type standing struct{ s, b, want string }

func (h how) stand(t *testing.T, rows ...standing) {
	t.Helper()
	for _, x := range rows {
		if got := h.pairs(t, x.s, x.b); got != x.want {
			t.Errorf("%q stands in %q at %q, not at %q", x.s, x.b, got, x.want)
		}
		if got := modelPairs(h.re(t, x.s).Node(), x.b); got != x.want {
			t.Errorf("the model of %q stands in %q at %q, not at %q", x.s, x.b, got, x.want)
		}
	}
}

const noByte = "[^\x00-\xff]"

func TestEmpty(t *testing.T) {
	basic.stand(t,
		standing{"", "", "0-0"},
		standing{"", "ab", "0-0 1-1 2-2"},
		standing{`\(\)`, "ab", "0-0 1-1 2-2"},
		standing{`\(\)\(\)`, "a", "0-0 1-1"},
		standing{`\(\)a\(\)`, "aba", "0-1 2-3"},
	)
	extended.stand(t,
		standing{"a{0}", "", "0-0"},
		standing{"a{0}", "aa", "0-0 1-1 2-2"},
	)
}

func TestSets(t *testing.T) {
	extended.stand(t,
		standing{"a", "", ""},
		standing{"a", "a", "0-1"},
		standing{"a", "b", ""},
		standing{"a", "aba", "0-1 2-3"},
		standing{"a", "A", ""},
		standing{".", "", ""},
		standing{".", "a\n\x00\xff", "0-1 1-2 2-3 3-4"},
		standing{"[b-d]", "abcde", "1-2 2-3 3-4"},
		standing{"[^b-d]", "abcde\n\xff", "0-1 4-5 5-6 6-7"},
		standing{"\x00", "\x00a\x00", "0-1 2-3"},
		standing{"\x80", "\x7f\x80\x81", "1-2"},
		standing{"\xff", "\xfe\xff", "1-2"},
		standing{"\n", "a\n\n", "1-2 2-3"},
		standing{noByte, "", ""},
		standing{noByte, "a\x00\xff", ""},
	)
	extendedFold.stand(t,
		standing{"a", "aAbB", "0-1 1-2"},
		standing{"[A-B]", "aAbBc", "0-1 1-2 2-3 3-4"},
		standing{"[^a]", "aAb", "2-3"},
		standing{"\xe4", "\xe4\xc4", "0-1"},
	)
}

// Each set of one byte has that one alone.
func TestEachByte(t *testing.T) {
	all := make([]byte, 256)
	for c := range all {
		all[c] = byte(c)
	}
	for c := range all {
		p := match.New(regex.Literal(string(all[c:c+1]), false))
		finds(t, p, all, 0, span(c, c+1, true))
		finds(t, p, all[:c], 0, "")
		finds(t, p, all[c:], 0, "0-1")
		finds(t, p, all[c+1:], 0, "")
		p = match.New(extended.re(t, "[^[="+string(all[c:c+1])+"=]]+"))
		if c < 255 {
			finds(t, p, all, c+1, span(c+1, 256, true))
		}
		if c > 0 {
			finds(t, p, all, 0, span(0, c, true))
		}
	}
}

func TestBeginAndEnd(t *testing.T) {
	extended.stand(t,
		standing{"^", "", "0-0"},
		standing{"^", "ab", "0-0"},
		standing{"^", "a\nb", "0-0"},
		standing{"$", "", "0-0"},
		standing{"$", "ab", "2-2"},
		standing{"$", "a\n", "2-2"},
		standing{"$", "a\nb", "3-3"},
		standing{"^$", "", "0-0"},
		standing{"^$", "a", ""},
		standing{"$^", "", "0-0"},
		standing{"$^", "a", ""},
		standing{"^^", "a", "0-0"},
		standing{"$$", "a", "1-1"},
		standing{"^a", "aa", "0-1"},
		standing{"^^a", "aa", "0-1"},
		standing{"^a", "ba", ""},
		standing{"a^", "aa", ""},
		standing{"a^a", "aa", ""},
		standing{"a$", "aa", "1-2"},
		standing{"a$$", "aa", "1-2"},
		standing{"a$", "ab", ""},
		standing{"$a", "aa", ""},
		standing{"a$a", "aa", ""},
		standing{"^a$", "a", "0-1"},
		standing{"^a$", "aa", ""},
		standing{"(^|a)b", "bab", "0-1 1-3"},
		standing{"a(b|$)", "aba", "0-2 2-3"},
		standing{"^|a", "aa", "0-0 0-1 1-2"},
		standing{"$|a", "aa", "0-1 1-2 2-2"},
		standing{"a(^|$)", "aa", "1-2"},
		standing{"(^|$)a", "aa", "0-1"},
		standing{"(a|^)(b|$)", "", "0-0"},
		standing{"(a|^)(b|$)", "ab", "0-2"},
		standing{"(a|^)(b|$)", "b", "0-1"},
		standing{"(a|^)(b|$)", "a", "0-1"},
	)
	basic.stand(t,
		standing{"^", "ab", "0-0"},
		standing{"$", "ab", "2-2"},
		standing{"^*", "a*", ""},
		standing{"^*", "*a", "0-1"},
		standing{"a^", "a^", "0-2"},
		standing{"$a", "$a", "0-2"},
		standing{`\(^a\)*`, "aa", "0-0 0-1 1-1 2-2"},
	)
}

func TestCat(t *testing.T) {
	extended.stand(t,
		standing{"ab", "abab", "0-2 2-4"},
		standing{"ab", "ba", ""},
		standing{"ab", "a", ""},
		standing{"ab", "", ""},
		standing{"aa", "aaa", "0-2 1-3"},
		standing{"(ab)c", "abc", "0-3"},
		standing{"a(bc)", "abc", "0-3"},
		standing{"a(b(c(d)))", "abcd", "0-4"},
		standing{"(((a)b)c)d", "abcd", "0-4"},
		standing{"(ab)(cd)", "abcd", "0-4"},
		standing{"a*a*", "aa", "0-0 0-1 0-2 1-1 1-2 2-2"},
		standing{"a*a", "aa", "0-1 0-2 1-2"},
		standing{"(a|ab)(c|bcd)d*", "abcd", "0-3 0-4"},
		standing{"(a|ab)(bc|c)", "abc", "0-3"},
		standing{"a" + noByte, "aa", ""},
		standing{noByte + "a", "aa", ""},
	)
	extended.stand(t, standing{"abcdefghijklmnopqrst", "-abcdefghijklmnopqrst-", "1-21"})
}

func TestAlt(t *testing.T) {
	extended.stand(t,
		standing{"a|ab", "ab", "0-1 0-2"},
		standing{"ab|a", "ab", "0-1 0-2"},
		standing{"a|b|c", "cab", "0-1 1-2 2-3"},
		standing{"a|b|cd|e", "acde", "0-1 1-3 3-4"},
		standing{"a|a", "a", "0-1"},
		standing{"(a|b)|c", "abc", "0-1 1-2 2-3"},
		standing{"a|(b|(c|(d|e)))", "abcdef", "0-1 1-2 2-3 3-4 4-5"},
		standing{"((((a|b)|c)|d)|e)x", "axbxcxdxexfx", "0-2 2-4 4-6 6-8 8-10"},
		standing{"a(b|c|d)e", "abeacead", "0-3 3-6"},
		standing{"(a|b)(c|d)", "acadbcbdab", "0-2 2-4 4-6 6-8"},
		standing{"a{0}|b", "b", "0-0 0-1 1-1"},
		standing{"b|a{0}", "b", "0-0 0-1 1-1"},
		standing{"(a|a{0})b", "bab", "0-1 1-3 2-3"},
		standing{noByte + "|a", "a", "0-1"},
		standing{"a|" + noByte, "a", "0-1"},
		standing{"x(a|bc|(d|ef)g|h{2})y", "xayxbcyxdgyxefgyxhhyxdyxhy", "0-3 3-7 7-11 11-16 16-20"},
		standing{"ab|bc|cd|abcd", "abcd", "0-2 0-4 1-3 2-4"},
	)
	stoodAt(t, regex.Any(nil), "ab", "")
	stoodAt(t, regex.Any([]*regex.Re{regex.Any(nil), extended.re(t, "b")}), "ab", "1-2")
	stoodAt(t, regex.Any([]*regex.Re{regex.Literal("a", false), regex.Literal("", false), regex.Literal("ab", false)}), "ab", "0-2 1-1 2-2")
}

// stoodAt fails, if not just these are found, each from its beginning on.
func stoodAt(t *testing.T, r *regex.Re, b, want string) {
	t.Helper()
	var l []string
	p := match.New(r)
	for from := range len(b) + 1 {
		if begin, end, found := p.Find([]byte(b), from); found && begin == from {
			l = append(l, span(begin, end, found))
		}
	}
	if got := strings.Join(l, " "); got != want {
		t.Errorf("%.80s in %q: %q, not %q", r, b, got, want)
	}
}

func TestRep(t *testing.T) {
	extended.stand(t,
		standing{"a{0}", "aa", "0-0 1-1 2-2"},
		standing{"a{0,0}", "a", "0-0 1-1"},
		standing{"(ab|c){0}", "abc", "0-0 1-1 2-2 3-3"},
		standing{"xa{0}y", "xyxay", "0-2"},
		standing{"a{1}", "aa", "0-1 1-2"},
		standing{"a{2}", "aaa", "0-2 1-3"},
		standing{"a{2,2}", "aaa", "0-2 1-3"},
		standing{"a{3}", "aa", ""},
		standing{"a{0,1}", "aa", "0-0 0-1 1-1 1-2 2-2"},
		standing{"a?", "aa", "0-0 0-1 1-1 1-2 2-2"},
		standing{"a{0,2}", "aaa", "0-0 0-1 0-2 1-1 1-2 1-3 2-2 2-3 3-3"},
		standing{"a{1,2}", "aaa", "0-1 0-2 1-2 1-3 2-3"},
		standing{"a{2,3}", "aaaa", "0-2 0-3 1-3 1-4 2-4"},
		standing{"a{1,3}", "aaaa", "0-1 0-2 0-3 1-2 1-3 1-4 2-3 2-4 3-4"},
		standing{"a*", "aba", "0-0 0-1 1-1 2-2 2-3 3-3"},
		standing{"a{0,}", "aa", "0-0 0-1 0-2 1-1 1-2 2-2"},
		standing{"a+", "aaba", "0-1 0-2 1-2 3-4"},
		standing{"a{1,}", "aa", "0-1 0-2 1-2"},
		standing{"a{2,}", "aaaa", "0-2 0-3 0-4 1-3 1-4 2-4"},
		standing{"a{3,}", "aaaa", "0-3 0-4 1-4"},
		standing{"xa*y", "xyxayxaay", "0-2 2-5 5-9"},
		standing{"xa+y", "xyxayxaay", "2-5 5-9"},
		standing{"xa?y", "xyxayxaay", "0-2 2-5"},
		standing{"xa{2}y", "xyxayxaay", "5-9"},
		standing{"xa{1,2}y", "xyxayxaayxaaay", "2-5 5-9"},
		standing{"xa{2,}y", "xyxayxaayxaaay", "5-9 9-14"},
		standing{"(ab){2}", "ababab", "0-4 2-6"},
		standing{"(ab)*", "abab", "0-0 0-2 0-4 1-1 2-2 2-4 3-3 4-4"},
		standing{"(ab)+", "abaab", "0-2 3-5"},
		standing{"(ab)?c", "abcc", "0-3 2-3 3-4"},
		standing{"(a|bc){2}", "abca", "0-3 1-4"},
		standing{"(a|bc){1,2}x", "abcax", "1-5 3-5"},
		standing{"(a|b)*c", "abc", "0-3 1-3 2-3"},
		standing{noByte + "*", "ab", "0-0 1-1 2-2"},
		standing{noByte + "+", "ab", ""},
		standing{noByte + "{0}", "a", "0-0 1-1"},
		standing{noByte + "{2}", "ab", ""},
	)
}

// One within another.
func TestRepWithinRep(t *testing.T) {
	extended.stand(t,
		standing{"(a{2}){2}", "aaaaa", "0-4 1-5"},
		standing{"(a{2})*", "aaaaa", "0-0 0-2 0-4 1-1 1-3 1-5 2-2 2-4 3-3 3-5 4-4 5-5"},
		standing{"(a{2})+", "aaaa", "0-2 0-4 1-3 2-4"},
		standing{"(a{2,3}){2}", "aaaaaaa", "0-4 0-5 0-6 1-5 1-6 1-7 2-6 2-7 3-7"},
		standing{"(a{2}){1,2}", "aaaaaa", "0-2 0-4 1-3 1-5 2-4 2-6 3-5 4-6"},
		standing{"(a{3}){0,2}x", "aaaaaax", "0-7 3-7 6-7"},
		standing{"(a*)*", "aa", "0-0 0-1 0-2 1-1 1-2 2-2"},
		standing{"(a*)+", "aa", "0-0 0-1 0-2 1-1 1-2 2-2"},
		standing{"(a+)*", "aa", "0-0 0-1 0-2 1-1 1-2 2-2"},
		standing{"(a+)+", "aa", "0-1 0-2 1-2"},
		standing{"(a?)*", "aa", "0-0 0-1 0-2 1-1 1-2 2-2"},
		standing{"(a?){2}", "aaa", "0-0 0-1 0-2 1-1 1-2 1-3 2-2 2-3 3-3"},
		standing{"(a?){3}b", "aaaab", "1-5 2-5 3-5 4-5"},
		standing{"(a+){2}", "aaa", "0-2 0-3 1-3"},
		standing{"(a+){2,3}b", "aaaab", "0-5 1-5 2-5"},
		standing{"(a*b){2}", "abaab", "0-5 1-5"},
		standing{"(a*b){2,}", "babb", "0-3 0-4 1-4 2-4"},
		standing{"(a*b*)*", "ab", "0-0 0-1 0-2 1-1 1-2 2-2"},
		standing{"((a*)*)*", "a", "0-0 0-1 1-1"},
		standing{"((a|b)*c)*", "abcac", "0-0 0-3 0-5 1-1 1-3 1-5 2-2 2-3 2-5 3-3 3-5 4-4 4-5 5-5"},
		standing{"((a{2}){0,2}b){2}", "aabb", "0-4 2-4"},
		standing{"(a{0,2}b){2}", "aabab", "0-5 1-5 2-5"},
		standing{"((ab?){2}c?){2}", "abaaca", ""},
		standing{"((ab?){2}c?){2}", "abaacaa", "2-7"},
	)
}

// What stands for nothing stands so many times at one place.
func TestRepOfNothing(t *testing.T) {
	basic.stand(t,
		standing{`\(\)*`, "a", "0-0 1-1"},
		standing{`\(\)\{3\}`, "a", "0-0 1-1"},
		standing{`\(\)\{0\}`, "a", "0-0 1-1"},
		standing{`\(\)\{2,\}`, "a", "0-0 1-1"},
		standing{`\(\)\{2,255\}`, "a", "0-0 1-1"},
		standing{`\(\(\)*\)*`, "a", "0-0 1-1"},
		standing{`a\(\)*b`, "ab", "0-2"},
	)
	extended.stand(t,
		standing{"(a{0})*", "a", "0-0 1-1"},
		standing{"(a{0})+", "a", "0-0 1-1"},
		standing{"(a{0}){3}", "a", "0-0 1-1"},
		standing{"(a*){0}", "a", "0-0 1-1"},
		standing{"(a*){3}", "aa", "0-0 0-1 0-2 1-1 1-2 2-2"},
		standing{"(a*){3,}", "aa", "0-0 0-1 0-2 1-1 1-2 2-2"},
		standing{"(a|b{0})*", "aa", "0-0 0-1 0-2 1-1 1-2 2-2"},
		standing{"(a|b{0}){2}", "aaa", "0-0 0-1 0-2 1-1 1-2 1-3 2-2 2-3 3-3"},
		standing{"(b{0}|a)+", "aa", "0-0 0-1 0-2 1-1 1-2 2-2"},
		standing{"(^)*", "a", "0-0 1-1"},
		standing{"(^)+", "a", "0-0"},
		standing{"(^){0}", "a", "0-0 1-1"},
		standing{"(^){2}", "a", "0-0"},
		standing{"(^){2,}a", "aa", "0-1"},
		standing{"(^)?a", "aa", "0-1 1-2"},
		standing{"($)*", "a", "0-0 1-1"},
		standing{"a($)*", "aa", "0-1 1-2"},
		standing{"a($)+", "aa", "1-2"},
		standing{"($){3}", "a", "1-1"},
		standing{"($){0,3}", "a", "0-0 1-1"},
		standing{"(^a)*", "aa", "0-0 0-1 1-1 2-2"},
		standing{"(^a)+", "aa", "0-1"},
		standing{"(^a){2}", "aa", ""},
		standing{"(^a|b)*", "abab", "0-0 0-1 0-2 1-1 1-2 2-2 3-3 3-4 4-4"},
		standing{"(a$)*", "aa", "0-0 1-1 1-2 2-2"},
		standing{"(a$){2}", "aa", ""},
		standing{"(a|$)*", "aa", "0-0 0-1 0-2 1-1 1-2 2-2"},
		standing{"(a|$){3}", "aa", "0-2 1-2 2-2"},
		standing{"(a|^){3}", "aaa", "0-0 0-1 0-2 0-3"},
		standing{"(^|$)*", "a", "0-0 1-1"},
		standing{"(^|$)+", "a", "0-0 1-1"},
		standing{"(^|$){2}", "a", "0-0 1-1"},
		standing{"(^$)*", "a", "0-0 1-1"},
	)
}

// All repetitions of some things, each as often as may be, as the model has it.
func TestEveryRep(t *testing.T) {
	for _, kid := range []string{"a", "ab", "(a|ab)", "a?", "a*", "(a|b)", "(aa|aaa)", "(^|a)", "(a|$)", noByte, "(b{0})", "(a{2})"} {
		for least := range 5 {
			for most := least - 1; most < 6; most++ {
				times := fmt.Sprintf("{%d,%d}", least, most)
				if most < least {
					times = fmt.Sprintf("{%d,}", least)
				}
				for _, b := range []string{"", "a", "aa", "aaaaa", "ababab", "aabaaab"} {
					s := "(" + kid + ")" + times
					if got, want := extended.pairs(t, s, b), modelPairs(extended.re(t, s).Node(), b); got != want {
						t.Errorf("%q stands in %q at %q, not at %q", s, b, got, want)
					}
				}
			}
		}
	}
}
