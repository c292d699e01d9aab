package sortkit_test

import (
	"slices"
	"strings"
	"testing"

	"toolchest/api"
	"toolchest/order"
)

// asked is what arguments ask for.
type asked struct {
	letters  string // of all options
	opts     []api.Opt
	file     string // of the last -o
	operands []string
	ok       bool // there are no other options than those that there may be
}

func (a asked) has(letter string) bool { return strings.Contains(a.letters, letter) }

func (a asked) checks() bool { return a.has("c") || a.has("C") }

// inputs are those that are read: the descriptor 0 once.
func (a asked) inputs() []string {
	if len(a.operands) == 0 {
		return []string{"-"}
	}
	var l []string
	for _, operand := range a.operands {
		if operand != "-" || !slices.Contains(l, operand) {
			l = append(l, operand)
		}
	}
	return l
}

func askedOf(args []string) asked {
	a := asked{ok: true}
	rest := args[1:]
	for len(rest) > 0 && len(rest[0]) > 1 && rest[0][0] == '-' {
		group := rest[0][1:]
		rest = rest[1:]
		if group == "-" {
			break
		}
		for group != "" {
			letter, arg := group[:1], ""
			group = group[1:]
			if strings.Contains("kot", letter) {
				if group == "" && len(rest) == 0 {
					a.ok = false
				} else if group == "" {
					group, rest = rest[0], rest[1:]
				}
				arg, group = group, ""
			}
			a.ok = a.ok && strings.Contains("mucCobdfinrtk", letter)
			a.letters += letter
			a.opts = append(a.opts, api.Opt{Letter: letter[0], Arg: arg})
			if letter == "o" {
				a.file = arg
			}
		}
	}
	a.operands = rest
	return a
}

// model tells what comes of a job without faults.
type model struct {
	asked
	job    api.Job
	order  *order.Order
	bad    string // an input that can't be read on
	read   int    // behind so many of its lines
	errs   string
	status int
}

func (m *model) fail(operand, word string) {
	m.status = 2
	m.errs += "sort: " + operand + word + "\n"
}

// lines are those of an input that count.
func (m *model) lines(operand string) []string {
	if operand != "-" {
		i := slices.IndexFunc(m.job.Nodes, func(n api.Node) bool { return n.Path == "/"+operand })
		if i < 0 {
			m.fail(operand+": ", "no such file")
			return nil
		}
		if m.job.Nodes[i].Dir {
			m.fail(operand+": ", "is a directory")
			return nil
		}
	}
	lines := strings.SplitAfter(inputOf(m.job, operand), "\n")
	if lines[len(lines)-1] == "" {
		lines = lines[:len(lines)-1]
	}
	for i := range lines {
		if operand == m.bad && i == m.read {
			break
		}
		lines[i] = strings.TrimSuffix(lines[i], "\n")
		if len(lines[i]) > m.job.Lim.Line {
			m.fail(operand+": ", "line too long")
			return lines[:i]
		}
	}
	if operand == m.bad && m.read <= len(lines) {
		m.fail(operand+": ", "input/output error")
		return lines[:m.read]
	}
	return lines
}

// compare is by Keys with -u.
func (m *model) compare(a, b string) int {
	if m.has("u") {
		return m.order.Keys([]byte(a), []byte(b))
	}
	return m.order.Compare([]byte(a), []byte(b))
}

// sorted puts lines one by one behind all that are not behind them: with -u those that are not the same as one that is there.
func (m *model) sorted(lines []string) string {
	var l []string
	for _, line := range lines {
		i := slices.IndexFunc(l, func(other string) bool { return m.compare(line, other) < 0 })
		if i < 0 {
			i = len(l)
		}
		if !m.has("u") || i == 0 || m.compare(l[i-1], line) != 0 {
			l = slices.Insert(l, i, line)
		}
	}
	var out string
	for _, line := range l {
		out += line + "\n"
	}
	return out
}

// check tells whether lines are in order.
func (m *model) check(lines []string) bool {
	for i := 1; i < len(lines); i++ {
		n := m.compare(lines[i-1], lines[i])
		if n > 0 || n == 0 && m.has("u") {
			return false
		}
	}
	return true
}

// pure is the result of a job without faults: Out, Err, Status and Nodes. A file of -o is one that there is, or could be made in the root, or `d`, a directory.
func pure(t *testing.T, j api.Job) api.Result {
	t.Helper()
	return (&model{asked: askedOf(j.Args), job: j}).result()
}

func (m *model) result() api.Result {
	j := m.job
	o, ok := order.Read(m.opts)
	m.order = o
	result := func(out string, l []api.Node) api.Result {
		return api.Result{Out: []byte(out), Err: []byte(m.errs), Status: m.status, Nodes: l}
	}
	if !m.ok || !ok || m.checks() && (m.has("m") || m.has("o") || len(m.operands) > 1) {
		m.fail("", "usage")
		return result("", j.Nodes)
	}
	if m.checks() {
		m.checked(m.inputs()[0])
		return result("", j.Nodes)
	}
	var lines []string
	for _, operand := range m.inputs() {
		lines = append(lines, m.lines(operand)...)
	}
	out := m.sorted(lines)
	switch {
	case !m.has("o"):
		return result(out, j.Nodes)
	case m.file == "d":
		m.fail("d: ", "is a directory")
		return result("", j.Nodes)
	}
	return result("", with(j.Nodes, "/"+m.file, out))
}

func (m *model) checked(operand string) {
	if m.check(m.lines(operand)) {
		return
	}
	m.status, m.errs = 1, "" // what stands behind the line is not read
	if m.has("c") {
		m.errs = "sort: " + operand + ": not in order\n"
	}
}

// follows fails, if something else comes of a job than the model tells; its faults are mild.
func follows(t *testing.T, j api.Job) api.Result {
	t.Helper()
	return comesTo(t, j, pure(t, j))
}
