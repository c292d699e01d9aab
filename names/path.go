package names

import (
	"cmp"
	"strings"

	"toolchest/task"
)

const stroke = "/"

// Base is a path's last part, Dir what stands ahead of it.
func Base(s, suffix string) string {
	path := strings.TrimRight(s, stroke)
	switch {
	case s == "":
		return ""
	case path == "":
		return stroke
	}
	name := path[strings.LastIndex(path, stroke)+1:]
	if name == suffix {
		return name
	}
	return strings.TrimSuffix(name, suffix)
}

func Dir(s string) string {
	path := strings.TrimRight(s, stroke)
	last := strings.LastIndex(path, stroke)
	switch {
	case s == "":
		return "."
	case path == "":
		return stroke
	case last < 0:
		return "."
	}
	return cmp.Or(strings.TrimRight(path[:last], stroke), stroke)
}

func basename(t *task.Task) {
	switch len(t.Operands) {
	case 1:
		tellLine(t, Base(t.Operands[0], ""))
	case 2:
		tellLine(t, Base(t.Operands[0], t.Operands[1]))
	default:
		t.Refuse()
	}
}

func dirname(t *task.Task) {
	if len(t.Operands) != 1 {
		t.Refuse()
		return
	}
	tellLine(t, Dir(t.Operands[0]))
}
