package ends_test

import (
	"regexp"
	"slices"
	"strconv"
	"strings"
	"testing"

	"toolchest/api"
)

// asked is what arguments ask for; not ok: they may not be.
type asked struct {
	n        int
	isFrom   bool
	isBytes  bool
	operands []string
	ok       bool
}

var (
	headNumber = regexp.MustCompile(`^()0*([1-9][0-9]{0,9})$`)
	tailNumber = regexp.MustCompile(`^([+-]?)0*([0-9]{1,10})$`)
)

func askedOf(args []string) asked {
	var bad asked
	a := asked{n: 10, ok: true}
	letters, number := "n", headNumber
	if args[0] == "tail" {
		letters, number = "nc", tailNumber
	}
	last := map[string]string{}
	rest := args[1:]
	for len(rest) > 0 && len(rest[0]) > 1 && rest[0][0] == '-' {
		arg := rest[0]
		rest = rest[1:]
		if arg == "--" {
			break
		}
		if !strings.Contains(letters, arg[1:2]) {
			return bad
		}
		if len(arg) == 2 {
			if len(rest) == 0 {
				return bad
			}
			arg, rest = arg+rest[0], rest[1:]
		}
		last[arg[1:2]] = arg[2:]
	}
	for letter, value := range last {
		parts := number.FindStringSubmatch(value)
		if parts == nil {
			return bad
		}
		a.n, _ = strconv.Atoi(parts[2])
		a.isFrom, a.isBytes = parts[1] == "+", letter == "c"
	}
	if len(last) > 1 || a.n > api.MaxNum || args[0] == "tail" && len(rest) > 1 {
		return bad
	}
	a.operands = rest
	return a
}

func (a asked) inputs() []string {
	if len(a.operands) == 0 {
		return []string{"-"}
	}
	return a.operands
}

// model runs a job by strings alone, with faults by the transfers that they befall.
type model struct {
	job    api.Job
	heard  bool // the descriptor 0 was an input
	used   int
	out    string
	errs   string
	status int
}

// befall is how many bytes of a transfer go through, and what is wrong with it.
func (m *model) befall(n int, isWrite bool) (int, string) {
	for m.used < len(m.job.Faults) {
		f := m.job.Faults[m.used]
		m.used++
		switch {
		case f.Kind == api.FaultIntr:
			continue
		case f.Kind == api.FaultShort:
			return min(n, max(1, f.N)), ""
		case f.Kind == api.FaultIO:
			return 0, "input/output error"
		case f.Kind == api.FaultSpace && isWrite:
			return 0, "no space left"
		case f.Kind == api.FaultPipe && isWrite:
			return 0, "broken pipe"
		}
		break
	}
	return n, ""
}

// write appends a text to another one; what goes wrong with it.
func (m *model) write(to *string, s string) string {
	for s != "" {
		n, wrong := m.befall(len(s), true)
		if wrong != "" {
			return wrong
		}
		*to, s = *to+s[:n], s[n:]
	}
	return ""
}

func (m *model) fail(operand, word string) {
	m.status = 1
	m.write(&m.errs, m.job.Args[0]+": "+operand+word+"\n")
}

func (m *model) tell(s string) bool {
	wrong := m.write(&m.out, s)
	if wrong != "" {
		m.fail("standard output: ", wrong)
	}
	return wrong == ""
}

// read lets take have an input's chunks, the empty one at its end too, as long as it wants more; false: the input has failed.
func (m *model) read(operand string, take func(string) bool) bool {
	rest := inputOf(m.job, operand)
	switch operand {
	case "d":
		m.fail("d: ", "is a directory")
		return false
	case "-":
		if m.heard {
			take("")
			return true
		}
		m.heard = true
	}
	for {
		n, wrong := m.befall(min(m.job.Lim.Buf, len(rest)), false)
		if wrong != "" {
			m.fail(operand+": ", wrong)
			return false
		}
		if !take(rest[:n]) || n == 0 {
			return true
		}
		rest = rest[n:]
	}
}

// isThere says of an operand that can't be opened why.
func (m *model) isThere(operand string) bool {
	if operand == "-" || slices.ContainsFunc(m.job.Nodes, func(n api.Node) bool { return n.Path == "/"+operand }) {
		return true
	}
	m.fail(operand+": ", "no such file")
	return false
}

func (m *model) head(a asked) {
	gap, goesOn := "", true
	for _, operand := range a.inputs() {
		if !goesOn || !m.isThere(operand) {
			continue
		}
		left, isTitled := a.n, len(a.operands) < 2
		m.read(operand, func(s string) bool {
			if !isTitled {
				isTitled, goesOn = true, m.tell(gap+"==> "+operand+" <==\n")
				gap = "\n"
			}
			var text string
			for _, piece := range strings.SplitAfter(s, "\n") {
				if left > 0 {
					text += piece
					left -= strings.Count(piece, "\n")
				}
			}
			goesOn = goesOn && m.tell(text)
			return goesOn && left > 0
		})
	}
}

// behind is what stands from the n-th line or byte of a text on.
func behind(s string, a asked) string {
	n := max(a.n-1, 0)
	if a.isBytes {
		return s[min(n, len(s)):]
	}
	lines := strings.SplitAfter(s, "\n")
	return strings.Join(lines[min(n, len(lines)):], "")
}

func (m *model) tailFrom(a asked, operand string) {
	var all string
	told := 0
	m.read(operand, func(s string) bool {
		all += s
		text := behind(all, a)[told:]
		told += len(text)
		return m.tell(text)
	})
}

func (m *model) lastBytes(a asked, operand string) {
	var all string
	m.read(operand, func(s string) bool { all += s; return true })
	m.tell(all[max(0, len(all)-a.n):])
}

// fitting is how many bytes of a text stand ahead of its first line that is too long; below 0: none is.
func fitting(s string, line int) int {
	n := 0
	for piece := range strings.SplitAfterSeq(s, "\n") {
		if len(strings.TrimSuffix(piece, "\n")) > line {
			return n
		}
		n += len(piece)
	}
	return -1
}

func (m *model) lastLines(a asked, operand string) {
	var all string
	isWhole := m.read(operand, func(s string) bool {
		all += s
		n := fitting(all, m.job.Lim.Line)
		if n >= 0 {
			all = all[:n]
			m.fail(operand+": ", "line too long")
		}
		return n < 0
	})
	if !isWhole {
		all = all[:strings.LastIndex(all, "\n")+1]
	}
	lines := strings.SplitAfter(all, "\n")
	if lines[len(lines)-1] == "" {
		lines = lines[:len(lines)-1]
	}
	for _, line := range lines[max(0, len(lines)-a.n):] {
		if !m.tell(line) {
			return
		}
	}
}

func (m *model) run() {
	a := askedOf(m.job.Args)
	switch operand := append(a.operands, "-")[0]; {
	case !a.ok:
		m.fail("", "usage")
	case m.job.Args[0] == "head":
		m.head(a)
	case !m.isThere(operand):
	case a.isFrom:
		m.tailFrom(a, operand)
	case a.isBytes:
		m.lastBytes(a, operand)
	case a.n > 0:
		m.lastLines(a, operand)
	}
}

// follows fails, if a job's result is other than what the model tells.
func follows(t *testing.T, j api.Job) api.Result {
	t.Helper()
	m := &model{job: j}
	m.run()
	r := comes(t, j, m.out, m.errs, m.status)
	if r.Used != m.used {
		t.Errorf("%q, In %q, Lim %v, faults %v: %d faults were used, not %d", j.Args, j.In, j.Lim, j.Faults, r.Used, m.used)
	}
	return r
}
