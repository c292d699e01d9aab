package grep_test

import (
	"regexp"
	"slices"
	"strconv"
	"strings"
	"testing"

	"toolchest/api"
)

// plain are patterns that stand for themselves, however they are read.
var plain = regexp.MustCompile("^[A-Za-z0-9 ]*$")

// known are others as they are read as basic and as extended expressions, told as the library's expressions; behind a `!` stands what is said of one that may not be.
var known = map[string]struct{ basic, ext string }{
	"-a:1":               {"-a:1", "-a:1"},
	"\xff":               {`\x{ff}`, `\x{ff}`},
	"\x00":               {`\x00`, `\x00`},
	".":                  {".", "."},
	"a.b":                {"a.b", "a.b"},
	"^a":                 {"^a", "^a"},
	"b$":                 {"b$", "b$"},
	"^b":                 {"^b", "^b"},
	"a|B":                {`a\|B`, "a|B"},
	"a$":                 {"a$", "a$"},
	"^":                  {"^", "^"},
	"^$":                 {"^$", "^$"},
	"a^":                 {`a\^`, "a^"},
	"$b":                 {`\$b`, "$b"},
	"a*b":                {"a*b", "a*b"},
	"b*":                 {"b*", "b*"},
	"*":                  {`\*`, bad},
	"*a":                 {`\*a`, bad},
	"a|b":                {`a\|b`, "a|b"},
	"a|":                 {`a\|`, bad},
	"b+":                 {`b\+`, "b+"},
	"ab?":                {`ab\?`, "ab?"},
	"[ab]":               {"[ab]", "[ab]"},
	"[^a]":               {"[^a]", "[^a]"},
	"[]a]":               {`[\]a]`, `[\]a]`},
	"[":                  {bad, bad},
	"[]":                 {bad, bad},
	"a[":                 {bad, bad},
	"[b-a]":              {bad, bad},
	"(a)":                {`\(a\)`, "(a)"},
	"(":                  {`\(`, bad},
	")":                  {`\)`, bad},
	"()":                 {`\(\)`, bad},
	`\(a\)*b`:            {"(a)*b", `\(a\)*b`},
	`\(`:                 {bad, `\(`},
	`\)`:                 {bad, `\)`},
	"a{2}":               {`a\{2\}`, "a{2}"},
	`a\{2\}`:             {"a{2}", `a\{2\}`},
	`\`:                  {bad, bad},
	`\a`:                 {bad, bad},
	`\.`:                 {`\.`, `\.`},
	"(a{255}){40}":       {`\(a\{255\}\)\{40\}`, big},
	`\(a\{255\}\)\{40\}`: {big, `\(a\{255\}\)\{40\}`},
	"(b{200}){49}":       {`\(b\{200\}\)\{49\}`, `[^\x00-\x{10ffff}]`}, // just not too great; no line is that long
	"[[:digit:]]":        {"[0-9]", "[0-9]"},
	"[[:none:]]":         {bad, bad},
	"(standard input)":   {`\(standard input\)`, "(standard input)"},
	":":                  {":", ":"},
	"a\\|b":              {`a\|b`, `a\|b`},
	"\\$":                {`\$`, `\$`},
	"b\\{,2\\}":          {bad, `b\{,2\}`},
	"a**":                {bad, bad},
	"^*":                 {`^\*`, bad},
	"x\r":                {"x\r", "x\r"},
	"\xe4":               {`\x{e4}`, `\x{e4}`},
	"\xc3\xa4":           {`\x{c3}\x{a4}`, `\x{c3}\x{a4}`},
	"[\xe0-\xff]":        {`[\x{e0}-\x{ff}]`, `[\x{e0}-\x{ff}]`},
	"\xe4\xe4":           {`\x{e4}\x{e4}`, `\x{e4}\x{e4}`},
	"[^\xe4]":            {`[^\x{e4}]`, `[^\x{e4}]`},
	"\xff*$":             {`\x{ff}*$`, `\x{ff}*$`},
	"[[.a.]]":            {"a", "a"},
	"(^b|a$)":            {`\(^b\|a$\)`, "(^b|a$)"},
	"b  *":               {"b  *", "b  *"},
	"(a|b)(1|2)":         {`\(a\|b\)\(1\|2\)`, "(a|b)(1|2)"},
	"\\(^b\\)":           {"(^b)", `\(^b\)`},
}

const (
	bad = "!bad regular expression"
	big = "!too many"
)

// list is an option that names patterns.
type list struct{ letter, arg string }

// asked is what arguments ask for.
type asked struct {
	letters string // of options, each as often as it stands there
	lists   []list
	inputs  []string
	ok      bool
}

func (a asked) has(letter string) bool { return strings.Contains(a.letters, letter) }

func askedOf(args []string) asked {
	a := asked{ok: true}
	rest := args[1:]
	for len(rest) > 0 && len(rest[0]) > 1 && rest[0][0] == '-' {
		group := rest[0][1:]
		rest = rest[1:]
		if group == "-" {
			break
		}
		for group != "" {
			letter := group[:1]
			group = group[1:]
			a.ok = a.ok && strings.Contains("EFclqinsvxef", letter)
			if letter != "e" && letter != "f" {
				a.letters += letter
				continue
			}
			if group == "" && len(rest) > 0 {
				group, rest = rest[0], rest[1:]
			} else if group == "" {
				a.ok = false
			}
			a.lists = append(a.lists, list{letter, group})
			group = ""
		}
	}
	if len(a.lists) == 0 && len(rest) > 0 {
		a.lists, rest = []list{{"e", rest[0]}}, rest[1:]
	}
	a.inputs = rest
	shapes := 0
	for _, letter := range []string{"c", "l", "q"} {
		if a.has(letter) {
			shapes++
		}
	}
	a.ok = a.ok && len(a.lists) > 0 && shapes < 2 && !(a.has("E") && a.has("F"))
	return a
}

// model runs a job by strings and the library's expressions, with faults by the transfers that they befall.
type model struct {
	asked
	job    api.Job
	in     string // what was not read of the descriptor 0
	isUsed bool   // the descriptor 0 was an input
	used   int
	out    string
	errs   string
	failed bool
	found  bool
	stand  []*regexp.Regexp
}

// stream is an input that is read: what was not read of it yet, and what was read ahead.
type stream struct {
	operand string
	rest    *string
	isDir   bool
	ahead   string
	ended   bool
	failed  bool
}

// befall is how many bytes of a transfer go through, and what is wrong with it.
func (m *model) befall(n int, isWrite bool) (int, string) {
	for m.used < len(m.job.Faults) {
		f := m.job.Faults[m.used]
		m.used++
		switch {
		case f.Kind == api.FaultIntr:
			continue
		case f.Kind == api.FaultShort:
			return min(n, max(1, f.N)), ""
		case f.Kind == api.FaultIO:
			return 0, "input/output error"
		case f.Kind == api.FaultSpace && isWrite:
			return 0, "no space left"
		case f.Kind == api.FaultPipe && isWrite:
			return 0, "broken pipe"
		}
		break
	}
	return n, ""
}

// write appends a text to another one; what goes wrong with it.
func (m *model) write(to *string, s string) string {
	for s != "" {
		n, wrong := m.befall(len(s), true)
		if wrong != "" {
			return wrong
		}
		*to, s = *to+s[:n], s[n:]
	}
	return ""
}

// say is of something that fails.
func (m *model) say(operand, word string) {
	m.failed = true
	if operand != "" {
		operand += ": "
	}
	m.write(&m.errs, "grep: "+operand+word+"\n")
}

func (m *model) tell(s string) bool {
	wrong := m.write(&m.out, s+"\n")
	if wrong != "" {
		m.say("standard output", wrong)
	}
	return wrong == ""
}

// fail is say, of an input, of which nothing may be said.
func (m *model) fail(s *stream, word string, isSilent bool) {
	s.failed = true
	m.failed = true
	if !isSilent {
		m.say(s.operand, word)
	}
}

// open opens an operand.
func (m *model) open(operand string, isSilent bool) *stream {
	s := &stream{operand: operand, rest: &m.in}
	if operand == "-" {
		return s
	}
	path := strings.TrimPrefix(operand, "./")
	i := slices.IndexFunc(m.job.Nodes, func(n api.Node) bool { return n.Path == "/"+path })
	if i < 0 {
		m.fail(s, "no such file", isSilent)
		return s
	}
	data := string(m.job.Nodes[i].Data)
	s.rest, s.isDir = &data, m.job.Nodes[i].Dir
	return s
}

// next is the next line; false: there is none.
func (m *model) next(s *stream, isSilent bool) (string, bool) {
	wrong := ""
	for wrong == "" && !s.failed {
		line, rest, isWhole := strings.Cut(s.ahead, "\n")
		switch {
		case len(line) > m.job.Lim.Line:
			wrong = "line too long"
			continue
		case isWhole || s.ended:
			isThere := s.ahead != ""
			s.ahead = rest
			return line, isThere
		case s.isDir:
			wrong = "is a directory"
			continue
		}
		var n int
		n, wrong = m.befall(min(m.job.Lim.Buf, len(*s.rest)), false)
		s.ended = wrong == "" && n == 0
		s.ahead += (*s.rest)[:n]
		*s.rest = (*s.rest)[n:]
	}
	if !s.failed {
		m.fail(s, wrong, isSilent)
	}
	return "", false
}

// gather are the patterns; false: one of their files has failed.
func (m *model) gather() ([]string, bool) {
	var l []string
	for _, o := range m.lists {
		if o.letter == "e" {
			l = append(l, strings.Split(o.arg, "\n")...)
			continue
		}
		s := m.open(o.arg, false)
		for line, ok := m.next(s, false); ok; line, ok = m.next(s, false) {
			l = append(l, line)
		}
		if s.failed {
			return nil, false
		}
	}
	return l, true
}

// small lets the great letters be small.
func small(s string) string {
	b := []byte(s)
	for i, c := range b {
		if 'A' <= c && c <= 'Z' {
			b[i] = c - 'A' + 'a'
		}
	}
	return string(b)
}

// asRunes lets each byte be a rune, by which the library's expressions go.
func asRunes(s string) string {
	var l []rune
	for _, c := range []byte(s) {
		l = append(l, rune(c))
	}
	return string(l)
}

// expressionOf is the library's one of a pattern, or behind `!` what is said of it.
func (m *model) expressionOf(t *testing.T, pattern string) string {
	t.Helper()
	k, ok := known[pattern]
	switch {
	case m.has("F") || plain.MatchString(pattern):
		return regexp.QuoteMeta(asRunes(pattern))
	case !ok:
		t.Fatalf("the model does not know %q", pattern)
	case m.has("E"):
		return k.ext
	}
	return k.basic
}

var compiled = map[string]*regexp.Regexp{}

func compile(s string) *regexp.Regexp {
	if compiled[s] == nil {
		compiled[s] = regexp.MustCompile(s)
	}
	return compiled[s]
}

// read reads patterns; false: one may not be.
func (m *model) read(t *testing.T, l []string) bool {
	t.Helper()
	for _, pattern := range l {
		s := m.expressionOf(t, pattern)
		word, isWrong := strings.CutPrefix(s, "!")
		if isWrong {
			m.say(pattern, word)
			return false
		}
		if m.has("i") {
			s = small(s)
		}
		if m.has("x") {
			s = "^(?:" + s + ")$"
		}
		m.stand = append(m.stand, compile(s))
	}
	return true
}

func (m *model) isSelected(line string) bool {
	line = asRunes(line)
	if m.has("i") {
		line = small(line)
	}
	isThere := slices.ContainsFunc(m.stand, func(r *regexp.Regexp) bool { return r.MatchString(line) })
	return isThere != m.has("v")
}

// search goes through an input, which may be told by its name; false: it ends there.
func (m *model) search(operand string, isNamed bool) bool {
	isSilent := m.has("s")
	empty := ""
	s := &stream{operand: operand, rest: &empty, ended: true}
	if operand != "-" || !m.isUsed {
		s = m.open(operand, isSilent)
	}
	m.isUsed = m.isUsed || operand == "-"
	told, name := operand, ""
	if operand == "-" {
		told = "(standard input)"
	}
	if isNamed {
		name = told + ":"
	}
	lines, selected := 0, 0
	for line, ok := m.next(s, isSilent); ok; line, ok = m.next(s, isSilent) {
		lines++
		if !m.isSelected(line) {
			continue
		}
		selected++
		m.found = true
		switch {
		case m.has("q"):
			return false
		case m.has("l"):
			return m.tell(told)
		case m.has("c"):
			continue
		case m.has("n"):
			line = strconv.Itoa(lines) + ":" + line
		}
		if !m.tell(name + line) {
			return false
		}
	}
	return !m.has("c") || s.failed || m.tell(name+strconv.Itoa(selected))
}

func (m *model) grep(t *testing.T) {
	t.Helper()
	if !m.ok {
		m.say("", "usage")
		return
	}
	l, ok := m.gather()
	if !ok || !m.read(t, l) {
		return
	}
	inputs := m.inputs
	if len(inputs) == 0 {
		inputs = []string{"-"}
	}
	for _, operand := range inputs {
		if !m.search(operand, len(inputs) > 1) {
			return
		}
	}
}

func (m *model) status() int {
	switch {
	case m.has("q") && m.ok && m.found:
		return 0
	case m.failed:
		return 2
	case m.found:
		return 0
	}
	return 1
}

// follows fails, if something else comes of a job than the model tells.
func follows(t *testing.T, j api.Job) api.Result {
	t.Helper()
	m := &model{asked: askedOf(j.Args), job: j, in: string(j.In)}
	m.grep(t)
	r := comes(t, j, m.out, m.errs, m.status())
	if r.Used != m.used {
		t.Errorf("%q, In %q, Lim %v, faults %q: %d were used, not %d", j.Args, j.In, j.Lim, signsOf(j.Faults), r.Used, m.used)
	}
	return r
}
