package sed

import (
	"iter"
	"slices"

	"toolchest/api"
	"toolchest/match"
	"toolchest/task"
)

// editor goes through a script's commands for each line.
type editor struct {
	task          *task.Task
	script        *script
	lines         *lines
	do            map[byte]func(c *command) // what commands do, by their letters
	at            int                       // the command that is next
	pattern, hold []byte                    // the spaces; their bytes are never changed, so that both may have the same ones
	texts         [][]byte                  // of a, which are not told yet
	last          *match.Prog               // what was held against something last; nil: nothing yet
	isLast        bool                      // there is no line behind the one that was read last
	hasPut        bool                      // an s has put something in, for t
	jumps         int                       // since a line was read
	isLetGo       bool                      // the pattern space is not told at the end of the cycle
	isOver        bool                      // no cycle begins any more
	hasStopped    bool                      // something has failed, so that nothing else is done
}

func newEditor(t *task.Task, s *script, operands []string) *editor {
	e := &editor{task: t, script: s, lines: newLines(t, operands)}
	e.do = e.commands()
	return e
}

func (e *editor) run() {
	for !e.isOver && e.read(nil) {
		e.cycle()
	}
}

// cycle goes through the commands for a line that was read.
func (e *editor) cycle() {
	e.hasPut, e.isLetGo = false, false
	for e.at = 0; e.at < len(e.script.commands); {
		c := &e.script.commands[e.at]
		e.at++
		switch {
		case e.isDone(c):
			e.do[c.letter](c)
		case c.letter == '{':
			e.at = c.to
		}
	}
	if !e.isLetGo && !e.script.isQuiet {
		e.tellLine(e.pattern)
	}
	e.tellTexts()
}

// read lets the next line stand in the pattern space, behind other bytes; false: there is none any more, or something has failed, and that ends all.
func (e *editor) read(ahead []byte) bool {
	if e.hasStopped {
		return false
	}
	line, ok := e.lines.next()
	if !ok {
		e.letGo()
		return false
	}
	if len(ahead) > 0 && !e.hasRoom(len(ahead)+len(line)) {
		return false
	}
	e.keep(&e.pattern, slices.Concat(ahead, line))
	e.jumps = 0
	e.isLast = !e.lines.hasMore()
	return true
}

// hasRoom tells whether a space may have so many bytes; if not, all ends.
func (e *editor) hasRoom(size int) bool {
	if size > api.MaxSpace {
		e.fail(api.ErrLine)
	}
	return size <= api.MaxSpace
}

// keep lets a space have other bytes.
func (e *editor) keep(space *[]byte, b []byte) {
	if e.script.keeps { // else no more of what was read is kept than the line, which its input holds
		e.task.Proc.Drop(len(*space))
		e.task.Proc.Hold(len(b))
	}
	*space = b
}

// isDone tells whether a command is done that was come to.
func (e *editor) isDone(c *command) bool {
	switch {
	case c.first == nil:
		return !c.isTurned
	case c.second == nil:
		return e.fits(c.first) != c.isTurned
	}
	return e.isInRange(c) != c.isTurned
}

func (e *editor) fits(a *address) bool {
	switch a.kind {
	case atLine:
		return a.line == e.lines.number
	case atLast:
		return e.isLast
	}
	prog := e.ready(a.expr)
	return prog != nil && prog.Has(e.pattern)
}

// isInRange opens and ends ranges of a command. At the last time of one it is no longer open.
func (e *editor) isInRange(c *command) bool {
	line := e.lines.number
	if c.isOpen && !c.second.hasGoneBy(line) {
		c.isOpen = !e.fits(c.second)
		return true
	}
	isFirst := e.fits(c.first)
	c.isOpen = isFirst && (c.second.kind != atLine || c.second.line > line)
	return isFirst
}

// ready is what an expression looks for; nil: it stands nowhere.
func (e *editor) ready(x *expression) *match.Prog {
	if x.re != nil {
		if x.prog == nil {
			x.prog = match.New(x.re)
		}
		e.last = x.prog
	}
	return e.last
}

// places are where an expression stands, from the beginning on: none within another one, and none without bytes where the one ahead of it ends.
func (e *editor) places(x *expression) iter.Seq2[int, int] {
	return func(yield func(int, int) bool) {
		prog := e.ready(x)
		if prog == nil {
			return
		}
		b, last := e.pattern, -1
		for from := 0; ; {
			begin, end, ok := prog.Find(b, from)
			if !ok {
				return
			}
			from = end
			if begin == last && end == last {
				from++
				continue
			}
			if !yield(begin, end) {
				return
			}
			last = end
		}
	}
}

// goTo goes on with another command, if nothing has stopped it, as often as that may be.
func (e *editor) goTo(at int) {
	if e.hasStopped {
		return
	}
	e.jumps++
	if e.jumps > api.MaxJumps {
		e.fail(api.ErrMany)
		return
	}
	e.at = at
}

// end ends the cycle.
func (e *editor) end() { e.at = len(e.script.commands) }

// letGo ends the cycle, and nothing is told of the pattern space.
func (e *editor) letGo() {
	e.isLetGo = true
	e.end()
}

// fail says what may not be, and ends all.
func (e *editor) fail(why api.Errno) {
	e.task.Fail("", why)
	e.stop()
}

// stop lets nothing else be done.
func (e *editor) stop() {
	e.hasStopped = true
	e.end()
}

// tell tells bytes, if nothing has stopped it.
func (e *editor) tell(b []byte) {
	if !e.hasStopped && !e.task.Tell(b) {
		e.stop()
	}
}

func (e *editor) tellLine(b []byte) { e.tell(slices.Concat(b, []byte{feed})) }

func (e *editor) tellTexts() {
	for _, b := range e.texts {
		e.tell(b)
	}
	e.texts = nil
}
