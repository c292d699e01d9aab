package merge_test

import (
	"math"
	"regexp"
	"slices"
	"strconv"
	"strings"
	"testing"

	"toolchest/api"
)

// asked is what arguments ask for: of each letter all of its arguments.
type asked struct {
	name     string
	options  map[string][]string
	operands []string
	ok       bool // there are no other options than those that there may be
}

func (a asked) has(letter string) bool { return len(a.options[letter]) > 0 }

// last is the last argument of a letter, or another text.
func (a asked) last(letter, otherwise string) string {
	if l := a.options[letter]; len(l) > 0 {
		return l[len(l)-1]
	}
	return otherwise
}

func askedOf(args []string) asked {
	a := asked{name: args[0], options: map[string][]string{}, ok: true}
	plain := map[string]string{"uniq": "cdu", "comm": "123"}[a.name]
	letters := map[string]string{"uniq": "fs", "join": "aveot12"}[a.name]
	rest := args[1:]
	for len(rest) > 0 && len(rest[0]) > 1 && rest[0][0] == '-' {
		group := rest[0][1:]
		rest = rest[1:]
		if group == "-" {
			break
		}
		for group != "" {
			letter, arg := group[:1], ""
			group = group[1:]
			if strings.Contains(letters, letter) {
				if group == "" && len(rest) == 0 {
					a.ok = false
				} else if group == "" {
					group, rest = rest[0], rest[1:]
				}
				arg, group = group, ""
			}
			a.ok = a.ok && strings.Contains(plain+letters, letter)
			a.options[letter] = append(a.options[letter], arg)
		}
	}
	a.operands = rest
	return a
}

var (
	digits = regexp.MustCompile(`^[0-9]+$`)
	lists  = regexp.MustCompile(`^(0|[12]\.[0-9]+)([, \t](0|[12]\.[0-9]+))*$`)
	parts  = regexp.MustCompile(`[, \t]`)
	ahead  = regexp.MustCompile(`^[ \t]*[^ \t]*`)
	words  = regexp.MustCompile(`[^ \t]+`)
)

// isNumber tells whether a text is a number from least up to the greatest one.
func isNumber(s string, least int) bool {
	return digits.MatchString(s) && numberOf(s) >= least && numberOf(s) <= math.MaxInt32
}

// numberOf is a text's number, however many digits it has.
func numberOf(s string) int {
	n, err := strconv.ParseUint(s, 10, 63)
	if err != nil {
		return math.MaxInt
	}
	return int(n)
}

// mayBe tells whether options and operands may stand there.
func (a asked) mayBe() bool {
	if !a.ok {
		return false
	}
	switch a.name {
	case "uniq":
		return len(a.operands) <= 2 && !(a.has("c") && (a.has("d") || a.has("u"))) && isNumber(a.last("f", "0"), 0) && isNumber(a.last("s", "0"), 0)
	case "comm":
		return len(a.operands) == 2
	}
	for _, n := range append(slices.Clone(a.options["a"]), a.options["v"]...) {
		if n != "1" && n != "2" {
			return false
		}
	}
	list := a.last("o", "0")
	if !lists.MatchString(list) {
		return false
	}
	for _, part := range parts.Split(list, -1) {
		if len(part) > 1 && !isNumber(part[2:], 1) {
			return false
		}
	}
	return len(a.operands) == 2 && len(a.last("t", "x")) == 1 && isNumber(a.last("1", "1"), 1) && isNumber(a.last("2", "1"), 1)
}

// model runs a job by strings alone, with faults by the transfers that they befall.
type model struct {
	asked
	job     api.Job
	nodes   []api.Node
	used    int
	out     string
	file    string // what was told there
	errs    string
	status  int
	grouped int // bytes of the two groups that are most
}

// stream is an input: what was not read of it yet, what was read ahead, and the line at which it is.
type stream struct {
	operand     string
	rest, ahead string
	isDir       bool
	ended       bool
	failed      bool
	line        string
	isAt        bool
}

// befall is how many bytes of a transfer go through, and what is wrong with it.
func (m *model) befall(n int, isWrite bool) (int, string) {
	for m.used < len(m.job.Faults) {
		f := m.job.Faults[m.used]
		m.used++
		switch {
		case f.Kind == api.FaultIntr:
			continue
		case f.Kind == api.FaultShort:
			return min(n, max(1, f.N)), ""
		case f.Kind == api.FaultIO:
			return 0, "input/output error"
		case f.Kind == api.FaultSpace && isWrite:
			return 0, "no space left"
		case f.Kind == api.FaultPipe && isWrite:
			return 0, "broken pipe"
		}
		break
	}
	return n, ""
}

// write appends a text to another one; what goes wrong with it.
func (m *model) write(to *string, s string) string {
	for s != "" {
		n, wrong := m.befall(len(s), true)
		if wrong != "" {
			return wrong
		}
		*to, s = *to+s[:n], s[n:]
	}
	return ""
}

func (m *model) fail(operand, word string) {
	m.status = 2
	if m.name == "uniq" {
		m.status = 1
	}
	m.write(&m.errs, m.name+": "+operand+word+"\n")
}

// tell tells a text to the descriptor 1, or to uniq's second operand.
func (m *model) tell(s string) bool {
	to, name := &m.out, "standard output"
	if m.name == "uniq" && len(m.operands) == 2 {
		to, name = &m.file, m.operands[1]
	}
	wrong := m.write(to, s)
	if wrong != "" {
		m.fail(name+": ", wrong)
	}
	return wrong == ""
}

// open says of an operand that can't be opened why: it is as at its end.
func (m *model) open(operand string) *stream {
	if operand == "-" {
		return &stream{operand: operand, rest: string(m.job.In)}
	}
	i := slices.IndexFunc(m.nodes, func(n api.Node) bool { return n.Path == "/"+operand })
	if i < 0 {
		m.fail(operand+": ", "no such file")
		return &stream{failed: true}
	}
	return &stream{operand: operand, rest: string(m.nodes[i].Data), isDir: m.nodes[i].Dir}
}

// next goes to the next line.
func (m *model) next(s *stream) {
	s.line, s.isAt = "", false
	wrong := ""
	for wrong == "" && !s.failed {
		line, rest, found := strings.Cut(s.ahead, "\n")
		switch {
		case len(line) > m.job.Lim.Line:
			wrong = "line too long"
			continue
		case found || s.ended:
			s.line, s.isAt, s.ahead = line, s.ahead != "", rest
			return
		case s.isDir:
			wrong = "is a directory"
			continue
		}
		var n int
		n, wrong = m.befall(min(m.job.Lim.Buf, len(s.rest)), false)
		s.ended = wrong == "" && n == 0
		s.ahead += s.rest[:n]
		s.rest = s.rest[n:]
	}
	if !s.failed {
		s.failed = true
		m.fail(s.operand+": ", wrong)
	}
}

// rest is what is left of a line by -f and -s.
func (a asked) rest(line string) string {
	for n := numberOf(a.last("f", "0")); n > 0 && line != ""; n-- {
		line = line[len(ahead.FindString(line)):]
	}
	return line[min(len(line), numberOf(a.last("s", "0"))):]
}

// ofGroup is what uniq tells of lines that are the same.
func (a asked) ofGroup(lines []string) string {
	switch {
	case a.has("c"):
		return strconv.Itoa(len(lines)) + " " + lines[0] + "\n"
	case a.has("d") && a.has("u"), a.has("d") && len(lines) < 2, a.has("u") && len(lines) > 1:
		return ""
	}
	return lines[0] + "\n"
}

func (m *model) uniq() {
	operand := "-"
	if len(m.operands) > 0 {
		operand = m.operands[0]
	}
	s := m.open(operand)
	if s.failed {
		return
	}
	if len(m.operands) == 2 {
		switch out := m.operands[1]; {
		case out == "d":
			m.fail("d: ", "is a directory")
			return
		case out == operand:
			s.rest = ""
		}
		defer func() { m.nodes = with(m.nodes, "/"+m.operands[1], m.file) }()
	}
	var group []string
	for {
		m.next(s)
		if s.isAt && len(group) > 0 && m.rest(s.line) == m.rest(group[0]) {
			group = append(group, s.line)
			continue
		}
		if len(group) > 0 && !m.tell(m.ofGroup(group)) || !s.isAt {
			return
		}
		group = []string{s.line}
	}
}

// tabbed is a line of a column, from 1 on, as comm tells it.
func (a asked) tabbed(column int, line string) string {
	letters := []string{"1", "2", "3"}[:column]
	if a.has(letters[column-1]) {
		return ""
	}
	tabs := 0
	for _, letter := range letters[:column-1] {
		if !a.has(letter) {
			tabs++
		}
	}
	return strings.Repeat("\t", tabs) + line + "\n"
}

// both opens both inputs, and reads their first lines.
func (m *model) both() (a, b *stream) {
	a = m.open(m.operands[0])
	m.next(a)
	b = m.open(m.operands[1])
	m.next(b)
	return a, b
}

func (m *model) comm() {
	a, b := m.both()
	for goesOn := true; goesOn && (a.isAt || b.isAt); {
		switch {
		case !b.isAt || a.isAt && a.line < b.line:
			goesOn = m.tell(m.tabbed(1, a.line))
			m.onward(goesOn, a)
		case !a.isAt || b.line < a.line:
			goesOn = m.tell(m.tabbed(2, b.line))
			m.onward(goesOn, b)
		default:
			goesOn = m.tell(m.tabbed(3, a.line))
			m.onward(goesOn, a, b)
		}
	}
}

// onward goes to the next lines, if it goes on.
func (m *model) onward(goesOn bool, streams ...*stream) {
	for _, s := range streams {
		if goesOn {
			m.next(s)
		}
	}
}

// fields are those of a line, ahead of which stands an empty one, so that they are counted from 1 on.
func (a asked) fields(line string) []string {
	if a.has("t") {
		return append([]string{""}, strings.Split(line, a.last("t", ""))...)
	}
	return append([]string{""}, words.FindAllString(line, -1)...)
}

// field is that at a place; empty, if it is not there.
func (a asked) field(line string, place int) string {
	if l := a.fields(line); place < len(l) {
		return l[place]
	}
	return ""
}

// key is that of a line of an input.
func (a asked) key(input, line string) string {
	return a.field(line, numberOf(a.last(input, "1")))
}

// joined is a line as join tells it, made of those of the inputs that there are (by `1` and `2`).
func (a asked) joined(key string, lines map[string]string) string {
	var told []string
	if !a.has("o") {
		told = []string{key}
		for _, input := range []string{"1", "2"} {
			line, ok := lines[input]
			if !ok {
				continue
			}
			for i, field := range a.fields(line) {
				if i > 0 && i != numberOf(a.last(input, "1")) {
					told = append(told, field)
				}
			}
		}
		return strings.Join(told, a.last("t", " ")) + "\n"
	}
	for _, part := range parts.Split(a.last("o", ""), -1) {
		value := key
		if part != "0" {
			value = ""
			if line, ok := lines[part[:1]]; ok {
				value = a.field(line, numberOf(part[2:]))
			}
		}
		if value == "" {
			value = a.last("e", "")
		}
		told = append(told, value)
	}
	return strings.Join(told, a.last("t", " ")) + "\n"
}

// alone tells an unpaired line, if it is asked for, and goes to the next one.
func (m *model) alone(input string, s *stream) bool {
	told := true
	if slices.Contains(m.options["a"], input) || slices.Contains(m.options["v"], input) {
		told = m.tell(m.joined(m.key(input, s.line), map[string]string{input: s.line}))
	}
	m.onward(told, s)
	return told
}

// group are the lines with a key, behind which it goes.
func (m *model) group(input string, s *stream, key string) []string {
	var l []string
	for s.isAt && m.key(input, s.line) == key {
		l = append(l, s.line)
		m.next(s)
	}
	return l
}

func (m *model) pairs(a, b *stream) bool {
	key := m.key("1", a.line)
	first := m.group("1", a, key)
	second := m.group("2", b, key)
	if m.has("v") {
		return true
	}
	m.grouped = max(m.grouped, len(strings.Join(first, "")+strings.Join(second, "")))
	for _, x := range first {
		for _, y := range second {
			if !m.tell(m.joined(key, map[string]string{"1": x, "2": y})) {
				return false
			}
		}
	}
	return true
}

func (m *model) join() {
	a, b := m.both()
	goesOn := true
	for goesOn && a.isAt && b.isAt {
		x, y := m.key("1", a.line), m.key("2", b.line)
		switch {
		case x < y:
			goesOn = m.alone("1", a)
		case y < x:
			goesOn = m.alone("2", b)
		default:
			goesOn = m.pairs(a, b)
		}
	}
	for goesOn && a.isAt {
		goesOn = m.alone("1", a)
	}
	for goesOn && b.isAt {
		goesOn = m.alone("2", b)
	}
}

func modelOf(j api.Job) *model {
	m := &model{asked: askedOf(j.Args), job: j, nodes: j.Nodes}
	switch {
	case !m.mayBe():
		m.fail("", "usage")
	case m.name == "uniq":
		m.uniq()
	case m.name == "comm":
		m.comm()
	default:
		m.join()
	}
	return m
}

// groupsOf is how many bytes the two groups have that are most.
func groupsOf(j api.Job) int { return modelOf(j).grouped }

// follows fails, if something else comes of a job than the model tells.
func follows(t *testing.T, j api.Job) api.Result {
	t.Helper()
	m := modelOf(j)
	r := comesTo(t, j, api.Result{Out: []byte(m.out), Err: []byte(m.errs), Status: m.status, Nodes: m.nodes})
	if r.Used != m.used {
		t.Errorf("%q, In %q, Lim %v, faults %q: %d were used, not %d", j.Args, j.In, j.Lim, signsOf(j.Faults), r.Used, m.used)
	}
	return r
}
