package match_test

import (
	"fmt"
	"math/rand"
	"regexp"
	"strings"
	"testing"

	"toolchest/match"
	"toolchest/regex"
)

// everyTextFollows fails, if by one of all texts that may be something else is found than by the model, or, where there is one, by an expression of the library.
func (h how) everyTextFollows(t *testing.T, form string, most int, signs ...string) {
	t.Helper()
	fine := 0
	in := everyBytes(4, "a", "b")
	in = append(in, []byte("aaaaa"), []byte("ababab"), []byte("\na\x00\xffB"))
	for _, s := range everyText(most, signs...) {
		s = fmt.Sprintf(form, s)
		r, e := regex.Parse(s, h.ext, h.fold)
		if e != 0 {
			continue
		}
		fine++
		follows(t, r, in...)
		if h == extended {
			agrees(t, s, in)
		}
	}
	if fine < 150 {
		t.Errorf("%q: %d may be", signs, fine)
	}
}

// agrees fails, if an expression of the library finds something else in bytes below 128. Some it does not take: repetitions of more than 1000 times.
func agrees(t *testing.T, s string, in [][]byte) {
	t.Helper()
	p := extended.prog(t, s)
	other, e := regexp.Compile("(?s)" + s)
	if e != nil {
		return
	}
	other.Longest()
	for _, b := range in {
		want := ""
		if l := other.FindIndex(b); l != nil {
			want = span(l[0], l[1], true)
		}
		if !strings.Contains(string(b), "\xff") && !finds(t, p, b, 0, want) {
			t.Fatalf("of %q", s)
		}
	}
}

func TestEveryExtendedText(t *testing.T) {
	extended.everyTextFollows(t, "%s", 5, "a", "b", "(", ")", "|", "*")
	extended.everyTextFollows(t, "%s", 5, "a", "(", ")", "|", "^", "$")
	extended.everyTextFollows(t, "(%s)*", 4, "a", "b", "^", "$", "|", "*", ".", "(", ")")
	extended.everyTextFollows(t, "(%s){2}", 4, "a", "b", "|", "?", "(^|a)", "+", "[^a]", "$")
	extended.everyTextFollows(t, "a(%s)b", 4, "a", "b", "|", "{0}", "{1,2}", "{2,}", "(a|ab)", "(ab)")
	extendedFold.everyTextFollows(t, "%s", 4, "A", "b", "|", "*", "[^B]", "(a|ab)", "$")
}

func TestEveryBasicText(t *testing.T) {
	basic.everyTextFollows(t, "%s", 5, "a", `\(`, `\)`, "*", "^", "$")
	basic.everyTextFollows(t, `\(%s\)*`, 4, "a", "b", `\(`, `\)`, "*", "^", "$", `\{2\}`)
	basicFold.everyTextFollows(t, `\(%s\)\{1,2\}`, 4, "a", "B", `\(\)`, "*", "^", ".", `\{0,1\}`)
}

// chance makes texts: always the same ones.
type chance struct{ *rand.Rand }

func (c chance) of(texts ...string) string { return texts[c.Intn(len(texts))] }

func (c chance) some(most int, texts ...string) string {
	var s string
	for range c.Intn(most + 1) {
		s += c.of(texts...)
	}
	return s
}

// made is an extended expression that may be, but perhaps is too great.
func (c chance) made(deep int) string {
	var branches []string
	for range 1 + c.Intn(3) {
		s := ""
		for range 1 + c.Intn(3) {
			s += c.piece(deep)
		}
		branches = append(branches, s)
	}
	return strings.Join(branches, "|")
}

func (c chance) piece(deep int) string {
	times := c.of("", "", "", "*", "+", "?", "{0}", "{2}", "{0,2}", "{1,3}", "{2,}", "{0,}", "{3}")
	switch k := c.Intn(20); {
	case k == 0:
		return c.of("^", "$")
	case k == 1:
		return c.of("(^)", "($)", "(a{0})", noByte) + times
	case k < 5:
		return c.of(".", "[^a]", "[ab]", "[^bc]", "[b-c]") + times
	case k < 13 || deep == 0:
		return c.of("a", "a", "b", "b", "c") + times
	}
	return "(" + c.made(deep-1) + ")" + times
}

func TestAgainstAModel(t *testing.T) {
	c := chance{rand.New(rand.NewSource(16))}
	fine, found := 0, 0
	for range 6000 {
		s := c.made(3)
		r, e := regex.Parse(s, true, false)
		if e != 0 {
			continue
		}
		fine++
		b := []byte(c.some(16, "a", "b", "a", "b", "c", "ab", "aa"))
		if match.New(r).Has(b) {
			found++
		}
		follows(t, r, b, []byte(c.some(8, "a", "b", "c", "\n", "\xff", "\x00", "A")))
		agrees(t, s, [][]byte{b})
		if c.Intn(4) > 0 {
			continue
		}
		r = regex.Any([]*regex.Re{r, regex.Literal(c.some(3, "a", "b", "c"), c.Intn(2) == 0), extended.re(t, c.of("b|c", "^a", "c$", "(ab)*"))})
		follows(t, r, b)
		follows(t, regex.Whole(r), b, []byte("a"), []byte("ab"))
	}
	if fine < 5000 || found < fine/3 || found > fine*49/50 {
		t.Errorf("%d may be, of which %d are found", fine, found)
	}
}
