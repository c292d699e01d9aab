package merge

import (
	"slices"

	"toolchest/api"
	"toolchest/opt"
	"toolchest/task"
)

func comm(t *task.Task) {
	if len(t.Operands) != 2 {
		t.Refuse()
		return
	}
	whole := func(line []byte) []byte { return line }
	first := sourceOf(t.Open(t.Operands[0]), whole)
	second := sourceOf(t.Open(t.Operands[1]), whole)
	columns := columnsOf(t.Opts)
	for first.isAt || second.isAt {
		n := compare(first, second)
		line, place := lesser(first, second, n)
		if !columns[place].tell(t, line) {
			return
		}
		if n <= 0 {
			first.next()
		}
		if n >= 0 {
			second.next()
		}
	}
}

// lesser is the line that is taken, and the place of its column, by how the sources compare.
func lesser(first, second *source, n int) (line []byte, place int) {
	switch {
	case n < 0:
		return first.line, 0
	case n > 0:
		return second.line, 1
	}
	return first.line, 2
}

// column is how lines are told: those of the first input alone, of the second one alone, or of both.
type column struct {
	isTold bool
	ahead  string // tabs, for the columns ahead of it that are told
}

func columnsOf(opts []api.Opt) [3]column {
	var l [3]column
	ahead := ""
	for i := range l {
		isTold := !opt.Has(opts, "123"[i])
		l[i] = column{isTold, ahead}
		if isTold {
			ahead += "\t"
		}
	}
	return l
}

// tell tells a line, if the column is told; false: it can't be told.
func (c column) tell(t *task.Task, line []byte) bool {
	return !c.isTold || t.Tell(slices.Concat([]byte(c.ahead), line, []byte(feed)))
}
