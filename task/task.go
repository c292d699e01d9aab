// Package task is what utilities have in common: a name by which they start, options and operands, and the usual failures (shared/doc/05-stepio.md).
package task

import (
	"cmp"

	"toolchest/api"
	"toolchest/opt"
	"toolchest/proc"
	"toolchest/stepio"
)

// What stands for the descriptors 0 and 1 where an operand does.
const (
	StandardIn  = "-"
	StandardOut = "standard output"
)

// FdOut is the descriptor that is told.
const FdOut = 1

const statusFailed = 1

// Utility is what a process of one name does.
type Utility struct {
	Spec   string // of its options, as opt reads it
	Plain  bool   // it has no options: its arguments are all operands
	Do     func(t *Task)
	Failed int // the status to which failures let it come; 0: the usual one
}

// Task is a utility's process with its arguments, and the status that it comes to.
type Task struct {
	Proc     *proc.Proc
	Opts     []api.Opt
	Operands []string
	Status   int
	Silent   bool // what fails of inputs is not said
	failed   int  // the status to which failures let it come
	heard    bool // the descriptor 0 was an input
}

// Start runs a process by its name among those of utilities; nil, if it is none of them.
func Start(p *proc.Proc, utilities map[string]Utility) *proc.Machine {
	args := p.Args()
	if len(args) == 0 {
		return nil
	}
	u, ok := utilities[args[0]]
	if !ok {
		return nil
	}
	return proc.Go(p, u.main)
}

// main makes its task anew, since it may be gone through more than once.
func (u Utility) main(p *proc.Proc) int {
	opts, operands, e := u.parted(p.Args()[1:])
	t := &Task{Proc: p, Opts: opts, Operands: operands, failed: cmp.Or(u.Failed, statusFailed)}
	if e != api.OK {
		t.Refuse()
		return t.Status
	}
	u.Do(t)
	return t.Status
}

func (u Utility) parted(args []string) ([]api.Opt, []string, api.Errno) {
	if u.Plain {
		return nil, args, api.OK
	}
	return opt.Parse(args, u.Spec)
}

// Fail says what went wrong, for which the status is not 0 in the end.
func (t *Task) Fail(operand string, e api.Errno) {
	stepio.Say(t.Proc, operand, e)
	t.Status = t.failed
}

// Refuse says that the options or the operands may not be.
func (t *Task) Refuse() { t.Fail("", api.ErrUsage) }

// Write writes all bytes to a descriptor, of which is spoken by a name; false: it can't be written to, and that was said.
func (t *Task) Write(fd int, name string, b []byte) bool {
	e := stepio.Write(t.Proc, fd, b)
	if e != api.OK {
		t.Fail(name, e)
	}
	return e == api.OK
}

// Tell is Write, to the descriptor 1.
func (t *Task) Tell(b []byte) bool { return t.Write(FdOut, StandardOut, b) }
