package match_test

import (
	"bytes"
	"fmt"
	"math/rand"
	"strings"
	"testing"

	"toolchest/match"
	"toolchest/regex"
)

// P16.4

// hasAnchor says that a node, or one of those that it is made of, is the beginning or the end.
func hasAnchor(n *regex.Node) bool {
	for _, k := range n.Kids {
		if hasAnchor(k) {
			return true
		}
	}
	return n.Kind == regex.Begin || n.Kind == regex.End
}

// others are what may stand around bytes.
var others = []string{"", "a", "b", "ab", "\n", "c\x00", "\xff\xff\xff"}

// What stands from one place to another one does so with others ahead and behind.
func TestStandsWithOthersAround(t *testing.T) {
	for _, s := range []string{"a", "ab", "a|ab", "a*", "(ab)*", "(a|b{0})b", "a{2}", "a{1,3}b", "(a|bb)+", "[^a]", ".", noByte, noByte + "*", "(a*b){2}", "a{0}"} {
		for _, b := range []string{"", "a", "ab", "aab", "bab"} {
			want := extended.pairs(t, s, b)
			for _, ahead := range others {
				for _, behind := range others {
					var l []string
					for a := range len(b) + 1 {
						for z := a; z <= len(b); z++ {
							p := extended.prog(t, fmt.Sprintf("^.{%d}(%s).{%d}$", len(ahead)+a, s, len(b)-z+len(behind)))
							if p.Has([]byte(ahead + b + behind)) {
								l = append(l, span(a, z, true))
							}
						}
					}
					if got := strings.Join(l, " "); got != want {
						t.Errorf("%q stands in %q at %q, with %q ahead and %q behind at %q", s, b, want, ahead, behind, got)
					}
				}
			}
		}
	}
}

// staysFound fails, if what is found is another one with others ahead, or is not there any more with others behind.
func staysFound(t *testing.T, r *regex.Re, b []byte, ahead, behind string) {
	t.Helper()
	p := match.New(r)
	shift := len(ahead)
	more := append([]byte(ahead), b...)
	most := append(bytes.Clone(more), behind...)
	for from := range len(b) + 1 {
		begin, end, found := p.Find(b, from)
		want := span(begin+shift, end+shift, found)
		if !found {
			want = ""
		}
		finds(t, p, more, from+shift, want)
		if !found {
			continue
		}
		begin2, end2, found := p.Find(most, from+shift)
		if !found || begin2 > begin+shift || begin2 == begin+shift && end2 < end+shift || begin2 < from+shift {
			t.Errorf("%s in %q from %d on: %d-%d; with %q ahead and %q behind: %q", r, b, from, begin, end, ahead, behind, span(begin2, end2, found))
		}
		if !p.Has(b[from:]) || !p.Has(more) || !p.Has(most) {
			t.Errorf("%s: Has of %q and of %q with others around: %v, %v, %v", r, b[from:], b, p.Has(b[from:]), p.Has(more), p.Has(most))
		}
	}
}

func TestFoundWithOthersAround(t *testing.T) {
	c := chance{rand.New(rand.NewSource(4))}
	tried, fine := 0, 0
	for tried < 6000 {
		r, e := regex.Parse(c.made(3), true, c.Intn(2) == 0)
		if e != 0 || hasAnchor(r.Node()) {
			continue
		}
		tried++
		b := []byte(c.some(10, "a", "b", "a", "b", "c", "A"))
		if match.New(r).Has(b) {
			fine++
		}
		staysFound(t, r, b, c.some(5, others...), c.some(5, others...))
	}
	if fine < tried/4 {
		t.Errorf("of %d only %d are found", tried, fine)
	}
}

// With a beginning or an end it is not so.
func TestAnchorsWithOthersAround(t *testing.T) {
	extended.rows(t,
		row{"^a", "a", 0, "0-1"}, row{"^a", "ba", 0, ""}, row{"^a", "ba", 1, ""}, row{"^a", "ab", 0, "0-1"}, row{"a$", "a", 0, "0-1"}, row{"a$", "ab", 0, ""}, row{"a$", "ba", 0, "1-2"}, row{"^", "ba", 1, ""}, row{"$", "ba", 0, "2-2"},
	)
}

// A text's Literal stands where the text stands, and nowhere else.
func TestLiterals(t *testing.T) {
	c := chance{rand.New(rand.NewSource(5))}
	texts := everyText(4, "a", "b")
	for range 3000 {
		texts = append(texts, c.some(6, "a", "b", "a", "A", "*", ".", "^", "$", "[a]", `\`, "\x00", "\xff", "\n", "(", "Z"))
	}
	for _, s := range texts {
		p, folded := match.New(regex.Literal(s, false)), match.New(regex.Literal(s, true))
		b := []byte(c.some(8, "a", "b", "aa", "ab", "A", "B", "\n") + s + c.some(8, "a", "b", "\xff", "*", ".", "z", "Z") + c.some(1, s, strings.ToUpper(s)) + c.some(3, "a", "b"))
		for from := -1; from <= len(b)+1; from++ {
			finds(t, p, b, from, indexed(string(b), s, from))
			finds(t, folded, b, from, indexed(small(string(b)), small(s), from))
		}
	}
}

// indexed is where a text stands in another one from a place on.
func indexed(b, s string, from int) string {
	from = max(from, 0)
	if from > len(b) {
		return ""
	}
	at := strings.Index(b[from:], s)
	if at < 0 {
		return ""
	}
	return span(from+at, from+at+len(s), true)
}

// small are bytes with small letters in the places of great ones.
func small(s string) string {
	b := []byte(s)
	for i, c := range b {
		if 'A' <= c && c <= 'Z' {
			b[i] = c - 'A' + 'a'
		}
	}
	return string(b)
}
