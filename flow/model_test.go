package flow_test

import (
	"reflect"
	"strconv"
	"strings"
	"testing"

	"toolchest/api"
)

// model runs a job by strings alone: files by their names, and faults by the transfers that they befall.
type model struct {
	job    api.Job
	files  map[string]string
	heard  bool // the descriptor 0 was read
	used   int
	out    string
	errs   string
	status int
}

func newModel(j api.Job) *model {
	return &model{job: j, files: filesOf(j.Nodes)}
}

// befall is how many bytes of a transfer go through, and what it is answered.
func (m *model) befall(n int, isWrite bool) (int, string) {
	if m.used == len(m.job.Faults) {
		return n, ""
	}
	f := m.job.Faults[m.used]
	m.used++
	switch f.Kind {
	case api.FaultIntr:
		return m.befall(n, isWrite)
	case api.FaultShort:
		return min(n, max(1, f.N)), ""
	case api.FaultIO:
		return 0, "input/output error"
	case api.FaultSpace:
		if isWrite {
			return 0, "no space left"
		}
	case api.FaultPipe:
		if isWrite {
			return 0, "broken pipe"
		}
	}
	return n, ""
}

// write appends a text to another one; what goes wrong with it.
func (m *model) write(to *string, s string) string {
	for s != "" {
		n, wrong := m.befall(len(s), true)
		if wrong != "" {
			return wrong
		}
		*to, s = *to+s[:n], s[n:]
	}
	return ""
}

func (m *model) fail(operand, word string) {
	m.status = 1
	m.write(&m.errs, m.job.Args[0]+": "+operand+": "+word+"\n")
}

func (m *model) tell(s string) bool {
	wrong := m.write(&m.out, s)
	if wrong != "" {
		m.fail("standard output", wrong)
	}
	return wrong == ""
}

// read takes an input's chunks; false: it has failed, or take has no use for more.
func (m *model) read(operand string, take func(string) bool) bool {
	rest, ok := m.files[operand]
	switch {
	case operand == "-" && m.heard:
		return true
	case operand == "-":
		rest, m.heard = string(m.job.In), true
	case operand == "d":
		m.fail("d", "is a directory")
		return false
	case !ok:
		m.fail(operand, "no such file")
		return false
	}
	for {
		n, wrong := m.befall(min(m.job.Lim.Buf, len(rest)), false)
		if wrong != "" {
			m.fail(operand, wrong)
			return false
		}
		if n == 0 {
			return true
		}
		if !take(rest[:n]) {
			return false
		}
		rest = rest[n:]
	}
}

func (m *model) cat(operands []string) {
	goesOn := true
	for _, operand := range operands {
		if goesOn {
			m.read(operand, func(s string) bool { goesOn = m.tell(s); return goesOn })
		}
	}
}

// wcLine counts texts, in which words are parted from each other.
func wcLine(options string, texts []string, name string) string {
	feeds, words, bytes := 0, 0, 0
	for _, s := range texts {
		feeds, words, bytes = feeds+strings.Count(s, "\n"), words+len(strings.Fields(s)), bytes+len(s)
	}
	var line string
	for i, n := range []int{feeds, words, bytes} {
		if options == "" || strings.Contains(options, "lwc"[i:i+1]) {
			line += " " + strconv.Itoa(n)
		}
	}
	return line[1:] + name + "\n"
}

func (m *model) wc(options string, inputs []string, isNamed bool) {
	var all []string
	for _, operand := range inputs {
		var said, name string
		if !m.read(operand, func(s string) bool { said += s; return true }) {
			continue
		}
		if isNamed {
			name = " " + operand
		}
		all = append(all, said)
		if !m.tell(wcLine(options, []string{said}, name)) {
			return
		}
	}
	if len(inputs) > 1 {
		m.tell(wcLine(options, all, " total"))
	}
}

// teeFile is one that tee has opened: at which place it is, if it does not append.
type teeFile struct {
	name  string
	place int
	gone  bool
}

func (m *model) tee(appends bool, operands []string) {
	var l []*teeFile
	for _, name := range operands {
		switch {
		case name == "d":
			m.fail(name, "is a directory")
			continue
		case name == "n/y":
			m.fail(name, "no such file")
			continue
		case !appends:
			m.files[name] = ""
		default:
			m.files[name] += ""
		}
		l = append(l, &teeFile{name: name})
	}
	told := true
	m.read("-", func(s string) bool {
		told = told && m.tell(s)
		for _, f := range l {
			if !f.gone {
				m.writeFile(f, appends, s)
			}
		}
		return true
	})
}

func (m *model) writeFile(f *teeFile, appends bool, s string) {
	if appends {
		f.place = len(m.files[f.name])
	}
	var written string
	wrong := m.write(&written, s)
	old := m.files[f.name]
	m.files[f.name] = old[:f.place] + written + old[min(len(old), f.place+len(written)):]
	f.place += len(written)
	if wrong != "" {
		f.gone = true
		m.fail(f.name, wrong)
	}
}

func (m *model) run() {
	options, operands := "", m.job.Args[1:]
	for len(operands) > 0 && strings.HasPrefix(operands[0], "-") && operands[0] != "-" {
		arg := operands[0]
		operands = operands[1:]
		if arg == "--" {
			break
		}
		options += arg[1:]
	}
	inputs := operands
	if len(inputs) == 0 {
		inputs = []string{"-"}
	}
	switch m.job.Args[0] {
	case "cat":
		m.cat(inputs)
	case "tee":
		m.tee(options != "", operands)
	case "wc":
		m.wc(options, inputs, len(operands) > 0)
	}
}

func filesOf(l []api.Node) map[string]string {
	files := map[string]string{}
	for _, n := range l {
		if !n.Dir {
			files[n.Path[1:]] = string(n.Data)
		}
	}
	return files
}

// follows fails, if a job's result is other than what the model tells.
func follows(t *testing.T, j api.Job) api.Result {
	t.Helper()
	m := newModel(j)
	m.run()
	r := comes(t, j, m.out, m.errs, m.status)
	if files := filesOf(r.Nodes); !reflect.DeepEqual(files, m.files) {
		t.Errorf("%q, In %q, Buf %d, faults %v: %q, not %q", j.Args, j.In, j.Lim.Buf, j.Faults, files, m.files)
	}
	if r.Used != m.used {
		t.Errorf("%q, In %q, Buf %d, faults %v: %d faults were used, not %d", j.Args, j.In, j.Lim.Buf, j.Faults, r.Used, m.used)
	}
	return r
}
