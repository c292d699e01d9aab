package merge

import (
	"bytes"

	"toolchest/api"
	"toolchest/opt"
	"toolchest/task"
)

// joining is two inputs whose lines are joined by their keys.
type joining struct {
	task        *task.Task
	sides       [2]side
	tellsPaired bool
	compose     composer
	between     []byte // two parts of a line that is told
	kept        store  // of groups
}

// side is one of the inputs.
type side struct {
	*source
	rowOf         func(line []byte) row
	tellsUnpaired bool
}

func join(t *task.Task) {
	j, ok := joiningOf(t)
	if !ok || len(t.Operands) != 2 {
		t.Refuse()
		return
	}
	for i, operand := range t.Operands {
		j.sides[i].open(t, operand)
	}
	for j.hasLine() && j.tellNext() {
	}
}

// joiningOf is what the options ask for; false: they may not be.
func joiningOf(t *task.Task) (*joining, bool) {
	j := &joining{task: t, between: []byte(" "), kept: store{task: t}}
	j.tellsPaired = !opt.Has(t.Opts, 'v')
	delimiter, isByte := opt.Last(t.Opts, 't')
	if isByte {
		j.between = []byte(delimiter)
	}
	var mayCompose bool
	j.compose, mayCompose = composerOf(t.Opts)
	mayBe := j.setUnpaired(t.Opts) && len(j.between) == 1 && mayCompose
	for i, letter := range []byte("12") {
		place, ok := numberOf(t.Opts, letter, 1)
		j.sides[i].rowOf = rowsOf([]byte(delimiter), place)
		mayBe = mayBe && ok
	}
	return j, mayBe
}

// setUnpaired tells the sides whose unpaired lines are asked for; false: there is no such side.
func (j *joining) setUnpaired(opts []api.Opt) bool {
	for _, o := range opts {
		if o.Letter != 'a' && o.Letter != 'v' {
			continue
		}
		i, ok := inputOf(o.Arg)
		if !ok {
			return false
		}
		j.sides[i].tellsUnpaired = true
	}
	return true
}

// open reads the first line, too.
func (s *side) open(t *task.Task, operand string) {
	s.source = sourceOf(t.Open(operand), func(line []byte) []byte { return s.rowOf(line).key() })
}

func (j *joining) hasLine() bool { return j.sides[0].isAt || j.sides[1].isAt }

// tellNext goes past the line with the lesser key, or past the lines of both inputs with one key; false: what is to be told of them can't be told.
func (j *joining) tellNext() bool {
	n := compare(j.sides[0].source, j.sides[1].source)
	switch {
	case n < 0:
		return j.tellUnpaired(0)
	case n > 0:
		return j.tellUnpaired(1)
	}
	return j.tellPaired()
}

// tellUnpaired goes past a line of one side.
func (j *joining) tellUnpaired(i int) bool {
	s := &j.sides[i]
	if s.tellsUnpaired {
		var rows [2]row
		rows[i] = s.rowOf(s.line)
		if !j.tell(s.key, rows) {
			return false
		}
	}
	s.next()
	return true
}

// tellPaired goes past the group of the first side, then past that of the second one. What it tells hangs on all of both, so both are held.
func (j *joining) tellPaired() bool {
	key := j.kept.keep(j.sides[0].key)
	first := j.rowsOfGroup(&j.sides[0], key)
	second := j.rowsOfGroup(&j.sides[1], key)
	for _, a := range first {
		for _, b := range second {
			if !j.tell(key, [2]row{a, b}) {
				return false
			}
		}
	}
	j.kept.empty()
	return true
}

// rowsOfGroup are those with a key; none, if they are not told.
func (j *joining) rowsOfGroup(s *side, key []byte) []row {
	var rows []row
	for line := range s.group(key) {
		if j.tellsPaired {
			rows = append(rows, s.rowOf(j.kept.keep(line)))
		}
	}
	return rows
}

// tell tells a line; false: it can't be told.
func (j *joining) tell(key []byte, rows [2]row) bool {
	line := bytes.Join(j.compose(key, rows), j.between)
	return j.task.Tell(append(line, feed...))
}
