package sed

import "toolchest/task"

// lines are those of inputs, one behind the other.
type lines struct {
	task   *task.Task
	left   []string    // inputs that were not opened yet
	in     *task.Input // the one that is read
	number int         // of the line that was read last
	size   int         // of that line, as long as its input holds it
	held   int         // bytes of it that its input does not hold any more, since it is closed
}

func newLines(t *task.Task, operands []string) *lines {
	return &lines{task: t, left: task.Inputs(operands), in: &task.Input{}}
}

// next is the next line, which is its input's till more is read; false: there is none any more.
func (l *lines) next() ([]byte, bool) {
	l.task.Proc.Drop(l.held)
	l.size, l.held = 0, 0
	for l.hasMore() {
		if line, ok := l.in.Line(); ok {
			l.number++
			l.size = len(line)
			return line, true
		}
	}
	return nil, false
}

// hasMore tells whether there is another byte. It opens inputs till one has.
func (l *lines) hasMore() bool {
	for !l.in.HasMore() {
		l.takeOver()
		l.in.Close()
		if len(l.left) == 0 {
			return false
		}
		l.in = l.task.OpenInTurn(l.left[0])
		l.left = l.left[1:]
	}
	return true
}

// takeOver holds the line that was read last, since its input, which is to be closed, does so no more.
func (l *lines) takeOver() {
	l.in.Free()
	l.task.Proc.Hold(l.size)
	l.size, l.held = 0, l.held+l.size
}
