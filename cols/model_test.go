package cols_test

import (
	"regexp"
	"slices"
	"strconv"
	"strings"
	"testing"

	"toolchest/api"
)

// asked is what arguments ask for: of each letter its last argument.
type asked struct {
	name     string
	options  map[string]string
	operands []string
	ok       bool // there are no other options than those that there may be
}

func (a asked) has(letter string) bool {
	_, ok := a.options[letter]
	return ok
}

func (a asked) inputs() []string {
	if len(a.operands) == 0 {
		return []string{"-"}
	}
	return slices.Clone(a.operands)
}

// askedOf reads arguments whose letters with an argument stand at the end of a group.
func askedOf(args []string) asked {
	a := asked{name: args[0], options: map[string]string{}, ok: true}
	letters, plain := "bcdf", "ns"
	if a.name == "paste" {
		letters, plain = "d", "s"
	}
	rest := args[1:]
	for len(rest) > 0 && len(rest[0]) > 1 && rest[0][0] == '-' {
		group := rest[0][1:]
		rest = rest[1:]
		if group == "-" {
			break
		}
		for group != "" && strings.Contains(plain, group[:1]) {
			a.options[group[:1]] = ""
			group = group[1:]
		}
		if group == "" {
			continue
		}
		value := group[1:]
		if value == "" && len(rest) > 0 {
			value, rest = rest[0], rest[1:]
		} else if value == "" {
			a.ok = false
		}
		a.options[group[:1]] = value
		a.ok = a.ok && strings.Contains(letters, group[:1])
	}
	a.operands = rest
	return a
}

var (
	lists = regexp.MustCompile(`^(\d+(-\d*)?|-\d+)([, \t](\d+(-\d*)?|-\d+))*$`)
	parts = regexp.MustCompile(`^(\d*)(-?)(\d*)$`)
	signs = regexp.MustCompile(`(?s)\\.|.`)
)

// place reads a number, however long, with another one in the place of none; 0: it is none that may be.
func place(digits string, none int) int {
	if digits == "" {
		return none
	}
	n, err := strconv.ParseUint(digits, 10, 64)
	if err != nil || n > api.MaxNum {
		return 0
	}
	return int(n)
}

// spansOf are pairs of places; nil: the list may not be.
func spansOf(list string) [][2]int {
	if !lists.MatchString(list) {
		return nil
	}
	var spans [][2]int
	for _, part := range regexp.MustCompile(`[, \t]`).Split(list, -1) {
		m := parts.FindStringSubmatch(part)
		from, to := place(m[1], 1), place(m[3], api.MaxNum)
		if m[2] == "" {
			to = from
		}
		if from < 1 || to < from {
			return nil
		}
		spans = append(spans, [2]int{from, to})
	}
	return spans
}

// left are those of some texts whose places lie in a span.
func left(texts []string, spans [][2]int) []string {
	var out []string
	for i, s := range texts {
		if slices.ContainsFunc(spans, func(span [2]int) bool { return span[0] <= i+1 && i+1 <= span[1] }) {
			out = append(out, s)
		}
	}
	return out
}

// bytesOf are a text's bytes, each one a text.
func bytesOf(s string) []string {
	var out []string
	for i := range len(s) {
		out = append(out, s[i:i+1])
	}
	return out
}

// cutOf is what is told of a line, of options that may be.
func (a asked) cutOf(line string) string {
	if !a.has("f") {
		return strings.Join(left(bytesOf(line), spansOf(a.options["b"]+a.options["c"])), "") + "\n"
	}
	c, ok := a.options["d"]
	if !ok {
		c = "\t"
	}
	if fields := strings.Split(line, c); len(fields) > 1 {
		return strings.Join(left(fields, spansOf(a.options["f"])), c) + "\n"
	}
	if a.has("s") {
		return ""
	}
	return line + "\n"
}

// mayBe tells whether options and their arguments may stand there.
func (a asked) mayBe() bool {
	if !a.ok {
		return false
	}
	if a.name == "paste" {
		list, ok := a.options["d"]
		return !ok || list != ""
	}
	b, c, f := a.has("b"), a.has("c"), a.has("f")
	switch {
	case b && !c && !f:
		return spansOf(a.options["b"]) != nil && !a.has("d") && !a.has("s")
	case c && !b && !f:
		return spansOf(a.options["c"]) != nil && !a.has("d") && !a.has("s") && !a.has("n")
	case f && !b && !c:
		return spansOf(a.options["f"]) != nil && !a.has("n") && (!a.has("d") || len(a.options["d"]) == 1)
	}
	return false
}

// sign is the n-th one of paste's, from 0 on.
func (a asked) sign(n int) string {
	list, ok := a.options["d"]
	if !ok {
		return "\t"
	}
	all := signs.FindAllString(list, -1)
	switch sign := all[n%len(all)]; sign {
	case `\n`:
		return "\n"
	case `\t`:
		return "\t"
	case `\0`:
		return ""
	default:
		return sign[len(sign)-1:]
	}
}

// model runs a job by strings alone, with faults by the transfers that they befall.
type model struct {
	asked
	job    api.Job
	used   int
	out    string
	errs   string
	status int
}

// stream is an input: what was not read of it yet, and what was read ahead.
type stream struct {
	operand     string
	rest, ahead string
	isDir       bool
	ended       bool
	failed      bool
}

// befall is how many bytes of a transfer go through, and what is wrong with it.
func (m *model) befall(n int, isWrite bool) (int, string) {
	for m.used < len(m.job.Faults) {
		f := m.job.Faults[m.used]
		m.used++
		switch {
		case f.Kind == api.FaultIntr:
			continue
		case f.Kind == api.FaultShort:
			return min(n, max(1, f.N)), ""
		case f.Kind == api.FaultIO:
			return 0, "input/output error"
		case f.Kind == api.FaultSpace && isWrite:
			return 0, "no space left"
		case f.Kind == api.FaultPipe && isWrite:
			return 0, "broken pipe"
		}
		break
	}
	return n, ""
}

// write appends a text to another one; what goes wrong with it.
func (m *model) write(to *string, s string) string {
	for s != "" {
		n, wrong := m.befall(len(s), true)
		if wrong != "" {
			return wrong
		}
		*to, s = *to+s[:n], s[n:]
	}
	return ""
}

func (m *model) fail(operand, word string) {
	m.status = 1
	m.write(&m.errs, m.name+": "+operand+word+"\n")
}

func (m *model) tell(s string) bool {
	wrong := m.write(&m.out, s)
	if wrong != "" {
		m.fail("standard output: ", wrong)
	}
	return wrong == ""
}

// open says of an operand that can't be opened why: it is as at its end.
func (m *model) open(operand string, others int) *stream {
	s := &stream{operand: operand, rest: inputOf(m.job, operand)}
	if operand == "-" {
		return s
	}
	i := slices.IndexFunc(m.job.Nodes, func(n api.Node) bool { return n.Path == "/"+operand })
	wrong := ""
	if others >= 13 {
		wrong = "too many"
	} else if i < 0 {
		wrong = "no such file"
	}
	if wrong != "" {
		m.fail(operand+": ", wrong)
		return &stream{failed: true, ended: true}
	}
	s.isDir = m.job.Nodes[i].Dir
	return s
}

// line is the next one; false: there is none any more.
func (m *model) line(s *stream) (string, bool) {
	wrong := ""
	for wrong == "" && !s.failed {
		line, rest, found := strings.Cut(s.ahead, "\n")
		switch {
		case len(line) > m.job.Lim.Line:
			wrong = "line too long"
			continue
		case found || s.ended:
			isLine := s.ahead != ""
			s.ahead = rest
			return line, isLine
		case s.isDir:
			wrong = "is a directory"
			continue
		}
		var n int
		n, wrong = m.befall(min(m.job.Lim.Buf, len(s.rest)), false)
		s.ended = wrong == "" && n == 0
		s.ahead += s.rest[:n]
		s.rest = s.rest[n:]
	}
	if !s.failed {
		s.failed = true
		m.fail(s.operand+": ", wrong)
	}
	return "", false
}

// turns lets each input have its turn; the descriptor 0 has nothing to say in its second one.
func (m *model) turns(read func(*stream) bool) {
	heard := false
	for _, operand := range m.inputs() {
		s := &stream{ended: true}
		if operand != "-" || !heard {
			s = m.open(operand, 0)
		}
		heard = heard || operand == "-"
		if !s.failed && !read(s) {
			return
		}
	}
}

func (m *model) cut() {
	m.turns(func(s *stream) bool {
		for {
			line, ok := m.line(s)
			if !ok {
				return true
			}
			if !m.tell(m.cutOf(line)) {
				return false
			}
		}
	})
}

func (m *model) pasteEach() {
	m.turns(func(s *stream) bool {
		for n := -1; ; n++ {
			line, ok := m.line(s)
			if !ok {
				return s.failed && n < 0 || m.tell("\n")
			}
			if n >= 0 {
				line = m.sign(n) + line
			}
			if !m.tell(line) {
				return false
			}
		}
	})
}

func (m *model) pasteAcross() {
	standard := &stream{operand: "-", rest: string(m.job.In)}
	var inputs []*stream
	files := 0
	for _, operand := range m.inputs() {
		s := standard
		if operand != "-" {
			s = m.open(operand, files)
		}
		if operand != "-" && !s.failed {
			files++
		}
		inputs = append(inputs, s)
	}
	for isRow := true; isRow; {
		isRow = false
		waits := ""
		for i, s := range inputs {
			line, ok := m.line(s)
			isRow = isRow || ok
			waits += line
			if i < len(inputs)-1 {
				waits += m.sign(i)
			} else {
				waits += "\n"
			}
			if isRow && !m.tell(waits) {
				return
			} else if isRow {
				waits = ""
			}
		}
	}
}

func (m *model) run() {
	m.asked = askedOf(m.job.Args)
	switch {
	case !m.mayBe():
		m.fail("", "usage")
	case m.name == "cut":
		m.cut()
	case m.has("s"):
		m.pasteEach()
	default:
		m.pasteAcross()
	}
}

// follows fails, if a job's result is other than what the model tells.
func follows(t *testing.T, j api.Job) api.Result {
	t.Helper()
	m := &model{job: j}
	m.run()
	r := comes(t, j, m.out, m.errs, m.status)
	if r.Used != m.used {
		t.Errorf("%q, In %q, Lim %v, faults %v: %d faults were used, not %d", j.Args, j.In, j.Lim, j.Faults, r.Used, m.used)
	}
	return r
}
