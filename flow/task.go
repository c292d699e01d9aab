package flow

import (
	"iter"

	"toolchest/api"
	"toolchest/proc"
	"toolchest/stepio"
)

// What stands for the descriptors 0 and 1 where an operand does.
const (
	standardIn  = "-"
	standardOut = "standard output"
)

const fdOut = 1

const statusFailed = 1

// task is a utility's process with its arguments, and the status that it comes to.
type task struct {
	proc     *proc.Proc
	opts     []api.Opt
	operands []string
	status   int
	heard    bool // the descriptor 0 was an input
}

// fail says what went wrong, for which the status is not 0 in the end.
func (t *task) fail(operand string, e api.Errno) {
	stepio.Say(t.proc, operand, e)
	t.status = statusFailed
}

// output is a descriptor to write to, with the name by which it is spoken of.
type output struct {
	fd   int
	name string
}

// write writes all bytes to an output; false: it can't be written to, and that was said.
func (t *task) write(o output, b []byte) bool {
	e := stepio.Write(t.proc, o.fd, b)
	if e != api.OK {
		t.fail(o.name, e)
	}
	return e == api.OK
}

// tell is write, to the descriptor 1.
func (t *task) tell(b []byte) bool { return t.write(output{fdOut, standardOut}, b) }

// inputs are the operands, or the one that stands for none.
func (t *task) inputs() []string {
	if len(t.operands) == 0 {
		return []string{standardIn}
	}
	return t.operands
}

// chunks are what an input says, chunk by chunk; if it fails, the last one is its error.
func (t *task) chunks(operand string) iter.Seq2[[]byte, api.Errno] {
	return func(yield func([]byte, api.Errno) bool) {
		if t.isHeard(operand) {
			return
		}
		fd, e := stepio.Open(t.proc, operand)
		if e != api.OK {
			yield(nil, e)
			return
		}
		r := stepio.New(t.proc, fd)
		b, e := r.Chunk()
		for e == api.OK && len(b) > 0 && yield(b, api.OK) {
			b, e = r.Chunk()
		}
		if e != api.OK {
			yield(nil, e)
		}
		stepio.Close(t.proc, fd)
	}
}

// isHeard tells whether an input has said all that it says: where the descriptor 0 is one twice, it says no bytes the second time, even if it has failed the first time and might go on.
func (t *task) isHeard(operand string) bool {
	if operand != standardIn {
		return false
	}
	was := t.heard
	t.heard = true
	return was
}
