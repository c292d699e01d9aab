package width_test

import (
	"fmt"
	"regexp"
	"slices"
	"strconv"
	"strings"
	"testing"

	"toolchest/api"
)

func digits(n int) string { return strconv.Itoa(n) }

// firstDifference tells in which line two texts differ.
func firstDifference(got, want string) string {
	a, b := strings.Split(got, "\n"), strings.Split(want, "\n")
	for i := range min(len(a), len(b)) {
		if a[i] != b[i] {
			return fmt.Sprintf("line %d is %q, not %q", i, a[i], b[i])
		}
	}
	return fmt.Sprintf("%d lines, not %d", len(a), len(b))
}

// widthOf is a segment's width.
func widthOf(segment string, byBytes bool) int {
	if byBytes {
		return len(segment)
	}
	segment = segment[strings.LastIndex(segment, "\r")+1:]
	at := 0
	for i := range len(segment) {
		switch segment[i] {
		case '\t':
			at += 8 - at%8
		case '\b':
			at -= min(at, 1)
		default:
			at++
		}
	}
	return at
}

var upToBlank = regexp.MustCompile(`(?s)^.*[ \t]`)

// foldOf cuts off a line's first segment, and folds what is left anew.
func foldOf(line string, most int, byBytes, atBlanks bool) string {
	var out string
	for {
		cut := 0
		for i := 1; i < len(line) && cut == 0; i++ {
			if widthOf(line[:i+1], byBytes) > most {
				cut = i
			}
		}
		if cut == 0 {
			return out + line
		}
		if atBlanks && upToBlank.MatchString(wide(line[:cut])) {
			cut = len([]rune(upToBlank.FindString(wide(line[:cut]))))
		}
		out, line = out+line[:cut]+"\n", line[cut:]
	}
}

// wide is a text each of whose bytes is a rune, as expressions go by runes.
func wide(s string) string {
	var out []rune
	for i := range len(s) {
		out = append(out, rune(s[i]))
	}
	return string(out)
}

// isStop tells whether a column is one.
func isStop(stops []int, col int) bool {
	if len(stops) == 1 {
		return col%stops[0] == 0
	}
	return slices.Contains(stops, col)
}

// columnOf is that behind a text without tabs.
func columnOf(s string) int {
	at := 0
	for i := range len(s) {
		if s[i] != '\b' {
			at++
		} else if at > 0 {
			at--
		}
	}
	return at
}

// expandOf takes one tab after the other.
func expandOf(line string, stops []int) string {
	for {
		ahead, behind, found := strings.Cut(line, "\t")
		if !found {
			return line
		}
		from := columnOf(ahead)
		to := from + 1
		if len(stops) == 1 || from < stops[len(stops)-1] {
			for !isStop(stops, to) {
				to++
			}
		}
		line = ahead + strings.Repeat(" ", to-from) + behind
	}
}

var runsAndWords = regexp.MustCompile(`[ \t]+|[^ \t]+`)

// unexpandOf takes one run after the other, and goes through its columns.
func unexpandOf(line string, stops []int, all bool) string {
	var out, ahead string
	for _, piece := range runsAndWords.FindAllString(wide(line), -1) {
		isRun := strings.Trim(piece, " \t") == ""
		if isRun && piece != " " && (all || ahead == "") {
			from, to := columnOf(expandOf(ahead, stops)), columnOf(expandOf(ahead+piece, stops))
			for col := from + 1; col <= to; col++ {
				out += " "
				if isStop(stops, col) {
					out = strings.TrimRight(out, " ") + "\t"
				}
			}
			ahead += piece
			continue
		}
		narrow := ""
		for _, r := range piece {
			narrow += string([]byte{byte(r)})
		}
		out, ahead = out+narrow, ahead+narrow
	}
	return out
}

// asked is what arguments ask for: of each letter its last argument.
type asked struct {
	name     string
	options  map[string]string
	operands []string
	ok       bool // there are no other options than those that there may be
}

func (a asked) has(letter string) bool {
	_, ok := a.options[letter]
	return ok
}

// value is an option's, or another one, if it is not there.
func (a asked) value(letter, usual string) string {
	if a.has(letter) {
		return a.options[letter]
	}
	return usual
}

func (a asked) inputs() []string {
	if len(a.operands) == 0 {
		return []string{"-"}
	}
	return a.operands
}

// askedOf reads arguments whose letters with an argument stand at the end of a group.
func askedOf(args []string) asked {
	a := asked{name: args[0], options: map[string]string{}, ok: true}
	letters := map[string]string{"fold": "w", "expand": "t", "unexpand": "t", "nl": "bvniws"}[a.name]
	plain := map[string]string{"fold": "bs", "unexpand": "a"}[a.name]
	rest := args[1:]
	for len(rest) > 0 && len(rest[0]) > 1 && rest[0][0] == '-' {
		group := rest[0][1:]
		rest = rest[1:]
		if group == "-" {
			break
		}
		for group != "" && strings.Contains(plain, group[:1]) {
			a.options[group[:1]] = ""
			group = group[1:]
		}
		if group == "" {
			continue
		}
		value := group[1:]
		if value == "" && len(rest) > 0 {
			value, rest = rest[0], rest[1:]
		} else if value == "" {
			a.ok = false
		}
		a.options[group[:1]] = value
		a.ok = a.ok && strings.Contains(letters, group[:1])
	}
	a.operands = rest
	return a
}

// number reads a number from least to most; below 0: it may not be.
func number(s string, least, most int) int {
	if !regexp.MustCompile(`^[0-9]+$`).MatchString(s) {
		return -1
	}
	n, err := strconv.Atoi(s)
	if err != nil || n < least || n > most {
		return -1
	}
	return n
}

// changes makes what a line becomes; nil: options and operands may not be.
func (a asked) changes() func(line string) string {
	if !a.ok {
		return nil
	}
	switch a.name {
	case "fold":
		n := number(a.value("w", "80"), 1, api.MaxNum)
		if n < 0 {
			return nil
		}
		return func(line string) string { return foldOf(line, n, a.has("b"), a.has("s")) }
	case "nl":
		return a.numbers()
	}
	stops := stopsOf(a.value("t", "8"))
	switch {
	case stops == nil:
		return nil
	case a.name == "expand":
		return func(line string) string { return expandOf(line, stops) }
	}
	return func(line string) string { return unexpandOf(line, stops, a.has("a") || a.has("t")) }
}

// numbers is changes, of nl.
func (a asked) numbers() func(line string) string {
	place := number(a.value("w", "6"), 1, 100)
	n := number(a.value("v", "1"), 0, api.MaxNum)
	by := number(a.value("i", "1"), 0, api.MaxNum)
	kind := a.value("b", "t")
	format := map[string]string{"rn": "%*d", "rz": "%0*d", "ln": "%-*d"}[a.value("n", "rn")]
	if place < 0 || n < 0 || by < 0 || format == "" || len(kind) != 1 || !strings.Contains("tan", kind) || len(a.operands) > 1 {
		return nil
	}
	n -= by
	return func(line string) string {
		if kind == "n" || kind == "t" && line == "" {
			return fmt.Sprintf("%*s", place+len(a.value("s", "\t")), "") + line
		}
		n += by
		return fmt.Sprintf(format, place, n) + a.value("s", "\t") + line
	}
}

// model runs a job by strings alone, with faults by the transfers that they befall.
type model struct {
	asked
	job    api.Job
	used   int
	out    string
	errs   string
	status int
}

// stream is an input: what was not read of it yet, and what was read ahead.
type stream struct {
	operand     string
	rest, ahead string
	isDir       bool
	ended       bool
	failed      bool
}

// befall is how many bytes of a transfer go through, and what is wrong with it.
func (m *model) befall(n int, isWrite bool) (int, string) {
	for m.used < len(m.job.Faults) {
		f := m.job.Faults[m.used]
		m.used++
		switch {
		case f.Kind == api.FaultIntr:
			continue
		case f.Kind == api.FaultShort:
			return min(n, max(1, f.N)), ""
		case f.Kind == api.FaultIO:
			return 0, "input/output error"
		case f.Kind == api.FaultSpace && isWrite:
			return 0, "no space left"
		case f.Kind == api.FaultPipe && isWrite:
			return 0, "broken pipe"
		}
		break
	}
	return n, ""
}

// write appends a text to another one; what goes wrong with it.
func (m *model) write(to *string, s string) string {
	for s != "" {
		n, wrong := m.befall(len(s), true)
		if wrong != "" {
			return wrong
		}
		*to, s = *to+s[:n], s[n:]
	}
	return ""
}

// fail says a word of an operand, if that has any bytes.
func (m *model) fail(operand, word string) {
	m.status = 1
	if operand != "" {
		word = operand + ": " + word
	}
	m.write(&m.errs, m.name+": "+word+"\n")
}

func (m *model) tell(s string) bool {
	wrong := m.write(&m.out, s)
	if wrong != "" {
		m.fail("standard output", wrong)
	}
	return wrong == ""
}

// open says of an operand that can't be opened why.
func (m *model) open(operand string) *stream {
	s := &stream{operand: operand, rest: inputOf(m.job, operand)}
	if operand == "-" {
		return s
	}
	i := slices.IndexFunc(m.job.Nodes, func(n api.Node) bool { return n.Path == "/"+operand })
	if i < 0 {
		m.fail(operand, "no such file")
		return &stream{failed: true}
	}
	s.isDir = m.job.Nodes[i].Dir
	return s
}

// line is the next one, with its line feed, if it has one; nothing: there is none any more.
func (m *model) line(s *stream) string {
	wrong := ""
	for wrong == "" && !s.failed {
		line, rest, found := strings.Cut(s.ahead, "\n")
		switch {
		case len(line) > m.job.Lim.Line:
			wrong = "line too long"
			continue
		case found:
			s.ahead = rest
			return line + "\n"
		case s.ended:
			s.ahead = ""
			return line
		case s.isDir:
			wrong = "is a directory"
			continue
		}
		var n int
		n, wrong = m.befall(min(m.job.Lim.Buf, len(s.rest)), false)
		s.ended = wrong == "" && n == 0
		s.ahead += s.rest[:n]
		s.rest = s.rest[n:]
	}
	s.failed = true
	m.fail(s.operand, wrong)
	return ""
}

func (m *model) run() {
	m.asked = askedOf(m.job.Args)
	change := m.changes()
	if change == nil {
		m.fail("", "usage")
		return
	}
	heard := false
	for _, operand := range m.inputs() {
		if operand == "-" && heard {
			continue
		}
		heard = heard || operand == "-"
		s := m.open(operand)
		for !s.failed {
			line := m.line(s)
			if line == "" {
				break
			}
			without, hasFeed := strings.CutSuffix(line, "\n")
			told := change(without)
			if hasFeed {
				told += "\n"
			}
			if !m.tell(told) {
				return
			}
		}
	}
}

// follows fails, if a job's result is other than what the model tells.
func follows(t *testing.T, j api.Job) api.Result {
	t.Helper()
	m := &model{job: j}
	m.run()
	r := comes(t, j, m.out, m.errs, m.status)
	if r.Used != m.used {
		t.Errorf("%q, In %q, Lim %v, faults %v: %d faults were used, not %d", j.Args, j.In, j.Lim, j.Faults, r.Used, m.used)
	}
	return r
}
