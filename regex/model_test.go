package regex_test

import (
	"fmt"
	"math/rand"
	"regexp"
	"strconv"
	"strings"
	"testing"

	"toolchest/api"
)

// model reads a text by the chapter's grammar in every way in which it can be read: from a place on, up to which places, and how that is told.
type model struct {
	how
	s string
}

type reading struct {
	end  int
	told []string
}

// whole is how a text is told; without that it may not be.
func (m model) whole(t *testing.T) string {
	t.Helper()
	want := ""
	for _, r := range m.expression(0) {
		if r.end < len(m.s) {
			continue
		}
		if want != "" {
			t.Fatalf("%q %s can be read as %s and as %s", m.s, m.how, want, r.told[0])
		}
		want = r.told[0]
	}
	return want
}

func (m model) stands(at int, s string) bool { return strings.HasPrefix(m.s[at:], s) }

// expression is one of branches.
func (m model) expression(start int) []reading {
	var all []reading
	for _, r := range m.branches(start) {
		one := "(" + strings.Join(r.told, "|") + ")"
		if len(r.told) == 1 {
			one = r.told[0]
		}
		all = append(all, reading{r.end, []string{one}})
	}
	return all
}

func (m model) branches(start int) []reading {
	var all []reading
	for _, r := range m.pieces(start, start) {
		one := "(" + strings.Join(r.told, "") + ")"
		if len(r.told) == 1 {
			one = r.told[0]
		}
		all = append(all, reading{r.end, []string{one}})
		if m.ext && m.stands(r.end, "|") {
			for _, rest := range m.branches(r.end + 1) {
				all = append(all, reading{rest.end, append([]string{one}, rest.told...)})
			}
		}
	}
	return all
}

// pieces are those from a place on, of a branch that begins at start; in a basic one they may be none.
func (m model) pieces(start, at int) []reading {
	var all []reading
	if !m.ext && at == start {
		all = append(all, reading{at, nil})
	}
	for _, r := range m.piece(start, at) {
		all = append(all, r)
		for _, rest := range m.pieces(start, r.end) {
			all = append(all, reading{rest.end, append([]string{r.told[0]}, rest.told...)})
		}
	}
	return all
}

func (m model) piece(start, at int) []reading {
	all := m.anchors(start, at)
	for _, r := range m.atoms(start, at) {
		all = append(all, r)
		if n, times := m.times(r.end); n > 0 {
			all = append(all, reading{r.end + n, []string{r.told[0] + times}})
		}
	}
	return all
}

// anchors have no repetition behind them.
func (m model) anchors(start, at int) []reading {
	begin := m.stands(at, "^") && (m.ext || at == start)
	end := m.stands(at, "$") && (m.ext || at == len(m.s)-1 || m.stands(at+1, `\)`))
	if begin || end {
		return []reading{{at + 1, []string{m.s[at : at+1]}}}
	}
	return nil
}

var (
	extendedTimes = regexp.MustCompile(`^(?:([*+?])|\{([0-9]+)(,?)([0-9]*)\})`)
	basicTimes    = regexp.MustCompile(`^(?:(\*)|\\\{([0-9]+)(,?)([0-9]*)\\\})`)
)

// times is how long the repetition at a place is, and how it is told.
func (m model) times(at int) (int, string) {
	form := basicTimes
	if m.ext {
		form = extendedTimes
	}
	l := form.FindStringSubmatch(m.s[at:])
	switch {
	case l == nil || l[3] == "" && l[4] != "":
		return 0, ""
	case l[1] != "":
		return 1, map[string]string{"*": "{0,}", "+": "{1,}", "?": "{0,1}"}[l[1]]
	}
	least, tooGreat := strconv.ParseUint(l[2], 10, 8)
	switch {
	case tooGreat != nil:
		return 0, ""
	case l[4] != "":
		most, tooGreat := strconv.ParseUint(l[4], 10, 8)
		if tooGreat != nil || most < least {
			return 0, ""
		}
		return len(l[0]), fmt.Sprintf("{%d,%d}", least, most)
	case l[3] != "":
		return len(l[0]), fmt.Sprintf("{%d,}", least)
	}
	return len(l[0]), fmt.Sprintf("{%d,%d}", least, least)
}

func (m model) atoms(start, at int) []reading {
	if at == len(m.s) || len(m.anchors(start, at)) > 0 {
		return nil
	}
	open, shut, special := `\(`, `\)`, `*[\`
	if m.ext {
		open, shut, special = "(", ")", `*+?{|()[\`
	}
	c := m.s[at : at+1]
	isFirst := at == start || at == start+1 && m.stands(start, "^")
	switch {
	case m.stands(at, open):
		return m.inner(at+len(open), shut)
	case c == "[":
		return m.bracket(at)
	case c == ".":
		return []reading{{at + 1, []string{anyByte}}}
	case c == `\`:
		return m.escaped(at + 1)
	case c == "*" && !m.ext && isFirst || !strings.Contains(special, c):
		return []reading{{at + 1, []string{m.set(c)}}}
	}
	return nil
}

func (m model) inner(start int, shut string) []reading {
	var all []reading
	for _, r := range m.expression(start) {
		if m.stands(r.end, shut) {
			all = append(all, reading{r.end + len(shut), r.told})
		}
	}
	return all
}

func (m model) escaped(at int) []reading {
	none := letters + digits
	if !m.ext {
		none += "(){}"
	}
	if at == len(m.s) || strings.Contains(none, m.s[at:at+1]) {
		return nil
	}
	return []reading{{at + 1, []string{m.set(m.s[at : at+1])}}}
}

// set is how a set of these bytes is told, with fold, if that is asked.
func (m model) set(l string) string {
	if !m.fold {
		return setOf(l)
	}
	more := ""
	for i := range len(l) {
		more += both(l[i : i+1])
	}
	return setOf(more)
}

// forms are those of a bracket's parts, in order; of bytes as runes, since expressions go by these.
var forms = regexp.MustCompile(`(?s)^(?:\[:(.*?):\]|\[=(.)=\]|(?:\[\.(.)\.\]|(.))-(?:\[\.(.)\.\]|([^\]]))|\[\.(.)\.\]|(.))`)

func (m model) bracket(at int) []reading {
	var wide []rune
	for i := range len(m.s) {
		wide = append(wide, rune(m.s[i]))
	}
	end, l, turned := at+1, "", false
	if m.stands(end, "^") {
		end, turned = end+1, true
	}
	for first := true; first || !m.stands(end, "]"); first = false {
		groups := forms.FindStringSubmatch(string(wide[end:]))
		if groups == nil {
			return nil
		}
		end += len([]rune(groups[0]))
		part, ok := partOf(groups)
		if !ok {
			return nil
		}
		l += part
	}
	told := m.set(l)
	if turned {
		told = otherSet(told)
	}
	return []reading{{end + 1, []string{told}}}
}

// partOf is the bytes of a part; false: it may not be.
func partOf(groups []string) (string, bool) {
	one := func(l ...int) int {
		for _, n := range l {
			if groups[n] != "" {
				return int([]rune(groups[n])[0])
			}
		}
		return -1
	}
	if strings.HasPrefix(groups[0], "[:") && strings.HasSuffix(groups[0], ":]") {
		l, ok := classes()[groups[1]]
		return l, ok
	}
	first, last := one(3, 4), one(5, 6)
	if first < 0 {
		return oneOf(one(2, 7, 8)), true
	}
	l := ""
	for c := first; c <= last; c++ {
		l += oneOf(c)
	}
	return l, first <= last
}

// otherSet is how all bytes are told that are not in a set that is told.
func otherSet(told string) string {
	var has [256]bool
	for c := range has {
		has[c] = true
	}
	for _, s := range strings.Split(strings.Trim(told, "<>"), ",") {
		if s == "" {
			continue
		}
		first, _ := strconv.ParseUint(s[:2], 16, 8)
		last, _ := strconv.ParseUint(s[len(s)-2:], 16, 8)
		for c := first; c <= last; c++ {
			has[c] = false
		}
	}
	return toldSet(has)
}

// follows fails, if a text is not read as the model reads it; it says whether it may be.
func (h how) follows(t *testing.T, s string) bool {
	t.Helper()
	want := model{h, s}.whole(t)
	r, e := h.parse(s)
	switch {
	case want == "" && (r != nil || e != api.ErrRegex):
		t.Errorf("%q %s: %v, %d", s, h, r, e)
	case want != "" && e == api.ErrMany && r == nil && sizeOfTold(want) > 10000:
	case want != "" && (r == nil || e != api.OK || !is(t, r, want)):
		t.Errorf("%q %s: %d, not %s", s, h, e, want)
	}
	return want != ""
}

// everyTextFollows fails, if one of all texts of so many signs is read otherwise.
func (h how) everyTextFollows(t *testing.T, before, behind string, most int, signs ...string) {
	t.Helper()
	fine, none := 0, 0
	for _, s := range everyText(most, signs...) {
		if h.follows(t, before+s+behind) {
			fine++
		} else {
			none++
		}
	}
	if fine < 20 || none < 20 {
		t.Errorf("%q: %d may be, %d may not", signs, fine, none)
	}
}

func TestEveryExtendedText(t *testing.T) {
	extended.everyTextFollows(t, "", "", 6, "a", "(", ")", "|", "*", "^")
	extended.everyTextFollows(t, "", "", 5, "a", "(", ")", "|", "+", "$", "{2}", `\`)
	extended.everyTextFollows(t, "a", "", 6, "{", "1", "2", ",", "}")
	extended.everyTextFollows(t, "a{", "}", 6, "0", "2", "5", "6", ",")
	extended.everyTextFollows(t, "", "", 4, "a", ".", "[", "]", "^", "(", ")", "?", `\`, "}")
	extendedFold.everyTextFollows(t, "(", ")", 4, "a", "B", "|", "(", ")", "?", "[^a]", `\.`)
}

func TestEveryBasicText(t *testing.T) {
	basic.everyTextFollows(t, "", "", 6, "a", `\(`, `\)`, "*", "^", "$")
	basic.everyTextFollows(t, "", "", 6, "a", `\`, "(", ")", "*", "^")
	basic.everyTextFollows(t, "", "", 5, "a", `\(`, `\)`, "*", "^", "$", `\{2\}`, `\`)
	basic.everyTextFollows(t, `a\{`, "", 6, "1", "2", ",", "}", `\`)
	basic.everyTextFollows(t, "", "", 4, "a", ".", "[", "]", "^", `\(`, `\)`, "*", "$", "|")
	basicFold.everyTextFollows(t, `\(`, `\)`, 4, "a", "B", `\(`, `\)`, "*", "^", "$", "[^a]")
}

func TestEveryBracket(t *testing.T) {
	basic.everyTextFollows(t, "[", "", 6, "[", "]", "^", "-", "a", "c")
	extended.everyTextFollows(t, "[", "]", 6, "[", "]", ".", "-", "a", "[.")
	extended.everyTextFollows(t, "[", "]", 5, "[", "]", "=", ".", ":", "-", "a")
	basic.everyTextFollows(t, "[", "]", 5, "[.a.]", "[.c.]", "[=b=]", "-", "[:digit:]", "b", "]", "^")
	extendedFold.everyTextFollows(t, "[", "]", 5, "a", "B", "-", "^", "[:", ":]", "upper")
	basicFold.everyTextFollows(t, "[^", "]", 5, "a", "Z", "-", "]", "[.", ".]")
}

// chance makes texts: always the same ones.
type chance struct{ *rand.Rand }

func (c chance) of(texts ...string) string { return texts[c.Intn(len(texts))] }

func (c chance) some(most int, texts ...string) string {
	var s string
	for range c.Intn(most + 1) {
		s += c.of(texts...)
	}
	return s
}

func TestAgainstAModel(t *testing.T) {
	c := chance{rand.New(rand.NewSource(15))}
	common := []string{"a", "b", "Z", "1", ".", "^", "$", "*", "[", "]", "[a]", "[^b-d]", "[[:alpha:]]", "-", `\`, `\.`, `\\`, "\x00", "\xff", "\xe4", ",", "|", "(", ")", "{", "}"}
	extras := map[bool][]string{
		true:  append([]string{"(", ")", "|", "+", "?", "{2}", "{1,}", "{0,3}", "a", "b"}, common...),
		false: append([]string{`\(`, `\)`, `\(`, `\)`, `\{2\}`, `\{1,\}`, `\{0,3\}`, "a", "b", "c"}, common...),
	}
	fine := 0
	for n := range 150000 {
		h := everyHow[n%4]
		if h.follows(t, c.some(10, extras[h.ext]...)) {
			fine++
		}
		if h.follows(t, "["+c.some(8, "a", "b", "Z", "-", "-", "]", "[", "^", "[:", ":]", "[.", ".]", "[=", "=]", "[.a.]", "[.z.]", "[=q=]", "[:space:]", "[:upper:]", "\\", "\xff", "\x00")+"]") {
			fine++
		}
	}
	if fine < 60000 || fine > 240000 {
		t.Errorf("%d may be", fine)
	}
}

// Texts that are made of what they are to be told as.
func TestMadeTexts(t *testing.T) {
	c := chance{rand.New(rand.NewSource(16))}
	sizes, tooGreat := 0, 0
	for n := range 30000 {
		h := everyHow[n%4]
		s, want := h.made(c, 4)
		if size := sizeOfTold(want); size > 10000 {
			h.refuses(t, s, api.ErrMany)
			tooGreat++
		} else {
			h.reads(t, s, want)
			h.sizes(t, s, size)
			sizes += size
		}
	}
	if sizes < 1000000 || tooGreat < 100 {
		t.Errorf("they are %d great in all, %d are too great", sizes, tooGreat)
	}
}

// toldOne is the innermost one of what is told: what has no parts; a repetition of what has a size already; several such in parentheses.
var (
	toldOne  = regexp.MustCompile(`<[^>]*>|\^|\$|\(\)|#([0-9]+);\{([0-9]+),([0-9]*)\}|\((?:#[0-9]+;\|?)+\)`)
	toldSize = regexp.MustCompile(`#([0-9]+);`)
)

// sizeOfTold is the size of what is told so, at most a great number: from the innermost ones on, sizes are put in their places.
func sizeOfTold(s string) int {
	for strings.ContainsAny(s, "<^$({") {
		s = toldOne.ReplaceAllStringFunc(s, func(one string) string {
			l := toldOne.FindStringSubmatch(one)
			size := 1
			for _, kid := range toldSize.FindAllStringSubmatch(one, -1) {
				n, _ := strconv.Atoi(kid[1])
				size += n
			}
			if l[1] != "" {
				least, _ := strconv.Atoi(l[2])
				most, _ := strconv.Atoi(l[3])
				size = 1 + (size-1)*max(1, least, most)
			}
			return fmt.Sprintf("#%d;", min(size, 1<<40))
		})
	}
	n, _ := strconv.Atoi(strings.Trim(s, "#;"))
	return n
}

// made is a text that may be, and how it is told.
func (h how) made(c chance, deep int) (string, string) {
	branches, told := []string(nil), []string(nil)
	for range 1 + c.Intn(3) {
		s, one := h.madeBranch(c, deep)
		branches, told = append(branches, s), append(told, one)
		if !h.ext {
			break
		}
	}
	if len(told) == 1 {
		return branches[0], told[0]
	}
	return strings.Join(branches, "|"), "(" + strings.Join(told, "|") + ")"
}

func (h how) madeBranch(c chance, deep int) (string, string) {
	s, told := "", []string(nil)
	if c.Intn(4) == 0 {
		s, told = "^", []string{"^"}
	}
	for range 1 + c.Intn(3) {
		atom, one := h.madeAtom(c, deep)
		times, toldTimes := h.madeTimes(c)
		s, told = s+atom+times, append(told, one+toldTimes)
	}
	if c.Intn(4) == 0 {
		s, told = s+"$", append(told, "$")
	}
	if len(told) == 1 {
		return s, told[0]
	}
	return s, "(" + strings.Join(told, "") + ")"
}

func (h how) madeAtom(c chance, deep int) (string, string) {
	switch k := c.Intn(8); {
	case k == 0:
		return ".", anyByte
	case k == 1:
		return "[^]x-z-]", model{how: h}.otherThan("]xyz-")
	case k == 2:
		b := c.of(".", "[", "]", `\`, "*", "^", "$", "/", "\xff")
		return `\` + b, setOf(b)
	case k < 6 || deep == 0:
		b := c.of("a", "b", "Q", "0", " ", "\n", "\x80", "-", "]", ",")
		return b, model{how: h}.set(b)
	}
	s, told := h.made(c, deep-1)
	if h.ext {
		return "(" + s + ")", told
	}
	return `\(` + s + `\)`, told
}

func (m model) otherThan(l string) string { return otherSet(m.set(l)) }

func (h how) madeTimes(c chance) (string, string) {
	least, most := c.Intn(20), 20+c.Intn(100)
	back := ""
	if !h.ext {
		back = `\`
	}
	switch c.Intn(12) {
	case 0:
		return "*", "{0,}"
	case 1:
		return fmt.Sprintf("%s{%d%s}", back, least, back), fmt.Sprintf("{%d,%d}", least, least)
	case 2:
		return fmt.Sprintf("%s{%d,%s}", back, least, back), fmt.Sprintf("{%d,}", least)
	case 3:
		return fmt.Sprintf("%s{%d,%d%s}", back, least, most, back), fmt.Sprintf("{%d,%d}", least, most)
	case 4:
		if h.ext {
			return "+", "{1,}"
		}
	case 5:
		if h.ext {
			return "?", "{0,1}"
		}
	}
	return "", ""
}
