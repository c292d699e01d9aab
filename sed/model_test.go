package sed_test

import (
	"fmt"
	"regexp"
	"slices"
	"strconv"
	"strings"
	"testing"
	"unicode/utf8"

	"toolchest/api"
	"toolchest/match"
	"toolchest/regex"
)

// The model has a rune for each byte of scripts and spaces, by which the library's expressions go.

func wide(s string) string {
	var l []rune
	for _, c := range []byte(s) {
		l = append(l, rune(c))
	}
	return string(l)
}

func narrow(s string) string {
	var b []byte
	for _, c := range s {
		b = append(b, byte(c))
	}
	return string(b)
}

// plain are expressions that stand for themselves.
var plain = regexp.MustCompile("^[A-Za-z0-9 ,;{}\n\u0080-\u00ff-]*$")

// known are others, told as the library's ones.
var known = map[string]string{
	".":             ".",
	".*":            ".*",
	"..":            "..",
	"^":             "^",
	"$":             "$",
	"^$":            "^$",
	"^a":            "^a",
	"b$":            "b$",
	"^b":            "^b",
	"a*":            "a*",
	"b*":            "b*",
	"x*":            "x*",
	"a*b":           "a*b",
	"ab*":           "ab*",
	"[ab]":          "[ab]",
	"[^a]":          "[^a]",
	"[^\n]*":        "[^\n]*",
	"\n.*":          "\n.*",
	".*\n":          ".*\n",
	"\n*":           "\n*",
	"[\n1]":         "[\n1]",
	"[0-9]":         "[0-9]",
	"[0-9]*":        "[0-9]*",
	`\(ab\)*`:       "(ab)*",
	`\(a\{2\}\)*b*`: "(a{2})*b*",
	`a\{2,\}`:       "a{2,}",
	`\.`:            `\.`,
	"a.b":           "a.b",
	"*":             `\*`,
	"^*b":           `^\*b`,
	".b":            ".b",
	"/":             "/",
	"[/]":           "/",
	`\*`:            `\*`,
	"^.":            "^.",
	".$":            ".$",
	"&":             "&",
}

var compiled = map[string]*regexp.Regexp{}

func compile(s string) *regexp.Regexp {
	if compiled[s] == nil {
		compiled[s] = regexp.MustCompile("(?s)" + s)
		compiled[s].Longest()
	}
	return compiled[s]
}

// standsAt are the places where an expression stands, none of which is empty behind another one. Of those that are not known, chapter 16's Find tells.
func standsAt(expr, s string) [][]int {
	lib, ok := known[expr]
	if plain.MatchString(expr) {
		lib, ok = regexp.QuoteMeta(expr), true
	}
	if ok {
		return compile(lib).FindAllStringIndex(s, -1)
	}
	re, _ := regex.Parse(narrow(expr), false, false)
	prog, b := match.New(re), []byte(narrow(s))
	at := make([]int, 0, len(b)+1) // of each byte, in what is wide
	for i := range s {
		at = append(at, i)
	}
	at = append(at, len(s))
	var l [][]int
	for from := 0; from <= len(b); from++ {
		begin, end, ok := prog.Find(b, from)
		if !ok {
			break
		}
		if begin == end && len(l) > 0 && l[len(l)-1][1] == at[begin] {
			continue
		}
		l = append(l, []int{at[begin], at[end]})
		from = max(begin, end-1)
	}
	return l
}

// addr is an address: a number in digits, `$`, or an expression behind a stroke.
type addr string

// cmd is a command as the model reads it.
type cmd struct {
	addrs    []addr
	isTurned bool
	letter   string
	texts    []string // of y and s, as they are written
	end      string   // what ends these
	flags    string
	text     string // of a, i, c, or a label
	isOpen   bool
}

// lexer cuts a script by expressions, and panics with what is said of one that may not be.
type lexer struct{ rest string }

const bad = "bad script"

func (l *lexer) may(pattern string) (string, bool) {
	got := compile("^(?:" + pattern + ")").FindString(l.rest)
	is := got != "" || compile("^(?:"+pattern+")").MatchString(l.rest)
	l.rest = l.rest[len(got):]
	return got, is
}

func (l *lexer) must(pattern string) string {
	got, is := l.may(pattern)
	if !is {
		panic(bad)
	}
	return got
}

// delimited is a text that a rune ends, and the rune.
func (l *lexer) delimited(end string) string {
	c, _ := utf8.DecodeRuneInString(end)
	s := l.must(fmt.Sprintf(`(?:[^\\\n\x{%x}]|\\.)*\x{%x}`, c, c))
	return strings.TrimSuffix(s, end)
}

// pieces are the runes of a text, each with the backslash ahead of it.
func pieces(s string) []string { return compile(`\\.|.`).FindAllString(s, -1) }

// expr is an expression as chapter 15 reads it.
func exprOf(s, end string) string {
	var b strings.Builder
	for _, p := range pieces(s) {
		switch p {
		case `\` + end:
			p = end
		case `\n`:
			p = "\n"
		case "\\\n":
			panic(bad)
		}
		b.WriteString(p)
	}
	if _, e := regex.Parse(narrow(b.String()), false, false); e == api.ErrRegex {
		panic("bad regular expression")
	} else if e != api.OK {
		panic("too many")
	}
	return b.String()
}

func (l *lexer) addr() (addr, bool) {
	if digits, ok := l.may("[0-9]+"); ok {
		digits = strings.TrimLeft(digits, "0")
		if n, err := strconv.ParseInt(digits, 10, 64); err != nil || n > api.MaxNum {
			panic(bad)
		}
		return addr(digits), true
	}
	if _, ok := l.may(`\$`); ok {
		return "$", true
	}
	begin, ok := l.may(`/|\\`)
	if begin == `\` {
		begin = l.must(`[^\\\n]`)
	}
	if !ok {
		return "", false
	}
	return addr("/" + exprOf(l.delimited(begin), begin)), true
}

func (l *lexer) closes() {
	l.must(`[ \t]*`)
	if l.rest != "" && !strings.Contains("\n;}", l.rest[:1]) {
		panic(bad)
	}
}

// mostOf is how many addresses a letter may have; false: it is none.
func mostOf(letter string) (int, bool) {
	for most, letters := range []string{":}#", "=aiq", "{bcdDgGhHnNpPstxy"} {
		if strings.Contains(letters, letter) {
			return most, true
		}
	}
	return 0, false
}

func (l *lexer) command() *cmd {
	c := &cmd{}
	if first, ok := l.addr(); ok {
		c.addrs = append(c.addrs, first)
		if _, ok := l.may(`,[ \t]*`); ok {
			second, ok := l.addr()
			if !ok {
				panic(bad)
			}
			c.addrs = append(c.addrs, second)
		}
	}
	l.must(`[ \t]*`)
	_, c.isTurned = l.may(`(?:![ \t]*)+`)
	c.letter = l.must(".")
	most, ok := mostOf(c.letter)
	if !ok || len(c.addrs) > most || c.isTurned && most == 0 {
		panic(bad)
	}
	switch c.letter {
	case "{":
	case "#":
		l.must(`[^\n]*`)
	case "a", "i", "c":
		l.must(`[ \t]*\\\n`)
		text := l.must(`(?:\\.|[^\\\n])*`)
		l.must(`\\?$|\n`)
		c.text = compile(`\\(.)`).ReplaceAllString(text, "$1") + "\n"
	case ":", "b", "t":
		l.must(`[ \t]*`)
		c.text = strings.TrimRight(l.must(`[^\n;]*`), " \t")
	case "y":
		c.end = l.must(`[^\\\n]`)
		c.exchange(l.delimited(c.end), l.delimited(c.end))
		l.closes()
	case "s":
		c.end = l.must(`[^\\\n]`)
		expr := exprOf(l.delimited(c.end), c.end)
		put := l.delimited(c.end)
		for _, p := range pieces(put) {
			if len(p) > 1 && p != `\`+c.end && strings.Contains("0123456789", p[1:]) {
				panic(bad)
			}
		}
		c.texts = []string{expr, put}
		c.flags = l.must("[gp0-9]*")
		digits := compile("[0-9]+").FindAllString(c.flags, -1)
		for _, s := range digits {
			if n, err := strconv.Atoi(s); err != nil || n < 1 || n > 512 {
				panic(bad)
			}
		}
		if strings.Count(c.flags, "g") > 1 || strings.Count(c.flags, "p") > 1 || len(digits) > 1 {
			panic(bad)
		}
		l.closes()
	default:
		l.closes()
	}
	return c
}

// exchange reads the texts of y.
func (c *cmd) exchange(texts ...string) {
	for _, text := range texts {
		s := ""
		for _, p := range pieces(text) {
			switch {
			case p == `\`+c.end:
				p = c.end
			case p == `\n`:
				p = "\n"
			case p == `\\`:
				p = `\`
			case p[0] == '\\':
				panic(bad)
			}
			s += p
		}
		c.texts = append(c.texts, s)
	}
	from, to := []rune(c.texts[0]), []rune(c.texts[1])
	if len(from) != len(to) {
		panic(bad)
	}
	slices.Sort(from)
	if len(slices.Compact(from)) != len(to) {
		panic(bad)
	}
}

// readScript are the commands of a script; or what is said of one that may not be.
func readScript(script string) (l []*cmd, wrong string) {
	defer func() {
		if r := recover(); r != nil {
			l, wrong = nil, r.(string)
		}
	}()
	x := &lexer{wide(script)}
	depth := 0
	for {
		x.must("[ \t\n;]*")
		if x.rest == "" {
			break
		}
		c := x.command()
		switch c.letter {
		case "{":
			depth++
		case "}":
			depth--
		case ":":
			if c.text == "" || label(l, c.text) >= 0 {
				panic(bad)
			}
		}
		if depth < 0 {
			panic(bad)
		}
		l = append(l, c)
	}
	for _, c := range l {
		if (c.letter == "b" || c.letter == "t") && c.text != "" && label(l, c.text) < 0 {
			panic(bad)
		}
	}
	if depth > 0 {
		panic(bad)
	}
	return l, ""
}

// label is where a label stands; below 0: nowhere.
func label(l []*cmd, name string) int {
	return slices.IndexFunc(l, func(c *cmd) bool { return c.letter == ":" && c.text == name })
}

// part is an option that tells a part of a script.
type part struct{ letter, arg string }

// asked is what a job's arguments ask for.
type asked struct {
	isQuiet bool
	parts   []part
	files   []string
	inputs  []string
	ok      bool
	script  string
}

func askedOf(j api.Job) asked {
	a := asked{ok: true}
	rest := j.Args[1:]
	for len(rest) > 0 && len(rest[0]) > 1 && rest[0][0] == '-' {
		group := rest[0][1:]
		rest = rest[1:]
		if group == "-" {
			break
		}
		for group != "" {
			letter := group[:1]
			group = group[1:]
			a.ok = a.ok && strings.Contains("nef", letter)
			if letter != "e" && letter != "f" {
				a.isQuiet = true
				continue
			}
			if group == "" && len(rest) > 0 {
				group, rest = rest[0], rest[1:]
			} else if group == "" {
				a.ok = false
			}
			a.parts = append(a.parts, part{letter, group})
			if letter == "f" {
				a.files = append(a.files, group)
			}
			group = ""
		}
	}
	if len(a.parts) == 0 && len(rest) > 0 {
		a.parts, rest = []part{{"e", rest[0]}}, rest[1:]
	}
	a.ok = a.ok && len(a.parts) > 0
	a.inputs = rest
	var texts []string
	for _, p := range a.parts {
		text := p.arg
		if p.letter == "f" {
			text = dataOf(j.Nodes, p.arg)
			if p.arg == "-" {
				text = string(j.In)
			}
			text = strings.TrimSuffix(text, "\n")
		}
		texts = append(texts, text)
	}
	a.script = strings.Join(texts, "\n")
	a.isQuiet = a.isQuiet || a.script == "#n" || strings.HasPrefix(a.script, "#n\n")
	return a
}

// keeps tells whether a script lets spaces be held.
func (a asked) keeps() bool {
	l, _ := readScript(a.script)
	return slices.ContainsFunc(l, func(c *cmd) bool { return strings.Contains("GgHhxND", c.letter) })
}

// model runs a job by strings and the library's expressions, with faults by the transfers that they befall.
type model struct {
	asked
	job     api.Job
	in      string // what was not read of the descriptor 0
	isUsed  bool   // the descriptor 0 was an input
	used    int
	out     string
	errs    string
	failed  bool
	stopped bool

	left          []string
	from          *stream
	cmds          []*cmd
	at            int
	number, jumps int
	pattern, hold string
	hasMore       bool
	texts         []string
	hasPut        bool
	last          string // the expression that was held against something last
	hasLast       bool
}

// stream is an input that is read: what was not read of it yet, and what was read ahead.
type stream struct {
	operand string
	rest    *string
	isDir   bool
	ahead   string
	ended   bool
	failed  bool
}

// befall is how many bytes of a transfer go through, and what is wrong with it.
func (m *model) befall(n int, isWrite bool) (int, string) {
	for m.used < len(m.job.Faults) {
		f := m.job.Faults[m.used]
		m.used++
		switch {
		case f.Kind == api.FaultIntr:
			continue
		case f.Kind == api.FaultShort:
			return min(n, max(1, f.N)), ""
		case f.Kind == api.FaultIO:
			return 0, "input/output error"
		case f.Kind == api.FaultSpace && isWrite:
			return 0, "no space left"
		case f.Kind == api.FaultPipe && isWrite:
			return 0, "broken pipe"
		}
		break
	}
	return n, ""
}

// write appends a text to another one; what goes wrong with it.
func (m *model) write(to *string, s string) string {
	for s != "" {
		n, wrong := m.befall(len(s), true)
		if wrong != "" {
			return wrong
		}
		*to, s = *to+s[:n], s[n:]
	}
	return ""
}

// say is of something that fails.
func (m *model) say(operand, word string) {
	m.failed = true
	if operand != "" {
		operand += ": "
	}
	m.write(&m.errs, "sed: "+operand+word+"\n")
}

// stop says why nothing else is done.
func (m *model) stop(operand, word string) {
	m.say(operand, word)
	m.stopped = true
}

func (m *model) tell(s string) {
	if m.stopped {
		return
	}
	if wrong := m.write(&m.out, narrow(s)); wrong != "" {
		m.stop("standard output", wrong)
	}
}

func (m *model) tellTexts() {
	for _, s := range m.texts {
		m.tell(s)
	}
	m.texts = nil
}

func (m *model) fail(s *stream, word string) {
	s.failed = true
	m.say(s.operand, word)
}

// open opens an operand.
func (m *model) open(operand string) *stream {
	s := &stream{operand: operand, rest: &m.in}
	if operand == "-" {
		return s
	}
	path := strings.TrimPrefix(operand, "./")
	i := slices.IndexFunc(m.job.Nodes, func(n api.Node) bool { return n.Path == "/"+path })
	if i < 0 {
		m.fail(s, "no such file")
		return s
	}
	data := string(m.job.Nodes[i].Data)
	s.rest, s.isDir = &data, m.job.Nodes[i].Dir
	return s
}

// fill reads once more, if a stream has not ended.
func (m *model) fill(s *stream) {
	if s.isDir {
		m.fail(s, "is a directory")
		return
	}
	n, wrong := m.befall(min(m.job.Lim.Buf, len(*s.rest)), false)
	if wrong != "" {
		m.fail(s, wrong)
		return
	}
	s.ended = n == 0
	s.ahead += (*s.rest)[:n]
	*s.rest = (*s.rest)[n:]
}

// next is the next line; false: there is none.
func (m *model) next(s *stream) (string, bool) {
	for !s.failed {
		line, rest, isWhole := strings.Cut(s.ahead, "\n")
		switch {
		case len(line) > m.job.Lim.Line:
			m.fail(s, "line too long")
		case isWhole || s.ended:
			isThere := s.ahead != ""
			s.ahead = rest
			return line, isThere
		default:
			m.fill(s)
		}
	}
	return "", false
}

// look looks whether there is another byte.
func (m *model) look() bool {
	for {
		if s := m.from; s != nil && !s.failed {
			if s.ahead == "" && !s.ended {
				m.fill(s)
			}
			if s.ahead != "" && !s.failed {
				return true
			}
		}
		m.from = nil
		if len(m.left) == 0 {
			return false
		}
		operand := m.left[0]
		m.left = m.left[1:]
		if operand != "-" || !m.isUsed {
			m.from = m.open(operand)
		}
		m.isUsed = m.isUsed || operand == "-"
	}
}

// read is the next line of all; false: there is none.
func (m *model) read() (string, bool) {
	for m.look() {
		if line, ok := m.next(m.from); ok {
			m.number++
			m.jumps = 0
			return wide(line), true
		}
	}
	return "", false
}

func (m *model) fits(a addr) bool {
	expr, isExpr := strings.CutPrefix(string(a), "/")
	switch {
	case isExpr:
		return len(m.stands(expr)) > 0
	case a == "$":
		return !m.hasMore
	}
	return string(a) == strconv.Itoa(m.number)
}

// stands are the places of an expression, of one without bytes those of the last one.
func (m *model) stands(expr string) [][]int {
	if expr != "" {
		m.last, m.hasLast = expr, true
	}
	if !m.hasLast {
		return nil
	}
	return standsAt(m.last, m.pattern)
}

func (m *model) isDone(c *cmd) bool {
	switch len(c.addrs) {
	case 0:
		return !c.isTurned
	case 1:
		return m.fits(c.addrs[0]) != c.isTurned
	}
	to, isNumber := 0, false
	if n, err := strconv.Atoi(string(c.addrs[1])); err == nil {
		to, isNumber = n, true
	}
	if c.isOpen && isNumber && to < m.number {
		c.isOpen = false
	}
	is := false
	if c.isOpen {
		is = true
		if m.fits(c.addrs[1]) {
			c.isOpen = false
		}
	} else if m.fits(c.addrs[0]) {
		is = true
		c.isOpen = !isNumber || to > m.number
	}
	return is != c.isTurned
}

// What follows on a command; nothing: the next one.
const (
	gone  = "the cycle ends, and nothing is told of the pattern space"
	quits = "the cycle ends, and all"
	goes  = "the cycle ends, and all, and nothing is told of the pattern space"
)

func (m *model) jump(at int) {
	if m.jumps++; m.jumps > api.MaxJumps && !m.stopped {
		m.stop("", "too many")
	}
	m.at = at
}

// grow lets a space have more; too much stops all.
func (m *model) grow(space *string, s string) {
	if utf8.RuneCountInString(s) > api.MaxSpace {
		m.stop("", "line too long")
		return
	}
	*space = s
}

func (m *model) do(c *cmd) string {
	first, behind, hasFeed := strings.Cut(m.pattern, "\n")
	switch c.letter {
	case "=":
		m.tell(strconv.Itoa(m.number) + "\n")
	case "p":
		m.tell(m.pattern + "\n")
	case "P":
		m.tell(first + "\n")
	case "i":
		m.tell(c.text)
	case "a":
		m.texts = append(m.texts, c.text)
	case "c":
		if len(c.addrs) < 2 || c.isTurned || !c.isOpen {
			m.tell(c.text)
		}
		return gone
	case "d":
		return gone
	case "D":
		if !hasFeed {
			return gone
		}
		m.pattern = behind
		m.tellTexts()
		m.jump(0)
	case "g":
		m.pattern = m.hold
	case "G":
		m.grow(&m.pattern, m.pattern+"\n"+m.hold)
	case "h":
		m.hold = m.pattern
	case "H":
		m.grow(&m.hold, m.hold+"\n"+m.pattern)
	case "x":
		m.pattern, m.hold = m.hold, m.pattern
	case "n", "N":
		return m.nextLine(c.letter)
	case "q":
		return quits
	case "b", "t":
		if c.letter == "t" && !m.hasPut {
			break
		}
		if c.letter == "t" {
			m.hasPut = false
		}
		to := len(m.cmds)
		if c.text != "" {
			to = label(m.cmds, c.text)
		}
		m.jump(to)
	case "y":
		m.pattern = strings.Map(func(x rune) rune {
			if i := slices.Index([]rune(c.texts[0]), x); i >= 0 {
				return []rune(c.texts[1])[i]
			}
			return x
		}, m.pattern)
	case "s":
		m.substitute(c)
	}
	return ""
}

func (m *model) nextLine(letter string) string {
	switch {
	case m.hasMore:
	case letter == "n":
		return quits
	default:
		return goes
	}
	if letter == "n" && !m.isQuiet {
		m.tell(m.pattern + "\n")
	}
	m.tellTexts()
	if m.stopped {
		return goes
	}
	line, ok := m.read()
	if !ok {
		return goes
	}
	if letter == "N" {
		m.grow(&m.pattern, m.pattern+"\n"+line)
	} else {
		m.pattern = line
	}
	if !m.stopped {
		m.hasMore = m.look()
	}
	return ""
}

func (m *model) substitute(c *cmd) {
	nth := 1
	if s := compile("[0-9]+").FindString(c.flags); s != "" {
		nth, _ = strconv.Atoi(s)
	}
	places := m.stands(c.texts[0])
	if len(places) < nth {
		return
	}
	places = places[nth-1:]
	if !strings.Contains(c.flags, "g") {
		places = places[:1]
	}
	s := m.pattern
	for _, at := range slices.Backward(places) {
		put := ""
		for _, p := range pieces(c.texts[1]) {
			switch {
			case p == "&":
				p = m.pattern[at[0]:at[1]]
			case p == `\`+c.end:
				p = c.end
			case p == `\n`:
				p = "\n"
			default:
				p = strings.TrimPrefix(p, `\`)
				if p == "" {
					p = `\`
				}
			}
			put += p
		}
		s = s[:at[0]] + put + s[at[1]:]
	}
	m.grow(&m.pattern, s)
	m.hasPut = true
	if strings.Contains(c.flags, "p") {
		m.tell(s + "\n")
	}
}

// skip goes on behind a block.
func (m *model) skip() {
	for depth := 1; depth > 0; m.at++ {
		switch m.cmds[m.at].letter {
		case "{":
			depth++
		case "}":
			depth--
		}
	}
}

// cycle goes through the commands; false: all ends.
func (m *model) cycle() bool {
	m.hasPut = false
	follows := ""
	for m.at = 0; m.at < len(m.cmds) && follows == "" && !m.stopped; {
		c := m.cmds[m.at]
		m.at++
		if m.isDone(c) {
			follows = m.do(c)
		} else if c.letter == "{" {
			m.skip()
		}
	}
	if !m.isQuiet && (follows == "" || follows == quits) {
		m.tell(m.pattern + "\n")
	}
	m.tellTexts()
	return !m.stopped && follows != quits && follows != goes
}

// gather reads the files of the script, as far as they may be read; false: one has failed.
func (m *model) gather() bool {
	for _, p := range m.parts {
		if p.letter != "f" {
			continue
		}
		s := m.open(p.arg)
		for ok := true; ok; {
			_, ok = m.next(s)
		}
		if s.failed {
			return false
		}
	}
	return true
}

func (m *model) sed() {
	if !m.ok {
		m.say("", "usage")
		return
	}
	if !m.gather() {
		return
	}
	l, wrong := readScript(m.script)
	if wrong != "" {
		m.say("", wrong)
		return
	}
	m.cmds, m.left = l, m.inputs
	if len(m.left) == 0 {
		m.left = []string{"-"}
	}
	for {
		var ok bool
		if m.pattern, ok = m.read(); !ok {
			return
		}
		m.hasMore = m.look()
		if !m.cycle() {
			return
		}
	}
}

// follows fails, if something else comes of a job than the model tells.
func follows(t *testing.T, j api.Job) api.Result {
	t.Helper()
	m := &model{asked: askedOf(j), job: j, in: string(j.In)}
	m.sed()
	status := 0
	if m.failed {
		status = 1
	}
	r := comes(t, j, m.out, m.errs, status)
	if r.Used != m.used {
		t.Errorf("%q, In %q, Lim %v, faults %q: %d were used, not %d", j.Args, j.In, j.Lim, signsOf(j.Faults), r.Used, m.used)
	}
	return r
}
