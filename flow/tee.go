package flow

import (
	"toolchest/api"
	"toolchest/opt"
	"toolchest/task"
)

// output is a descriptor to write to, with the name by which it is spoken of.
type output struct {
	fd   int
	name string
}

func tee(t *task.Task) {
	outputs := append([]output{{task.FdOut, task.StandardOut}}, files(t)...)
	for in := range t.Read(nil) {
		for b := range in.Chunks() {
			outputs = spread(t, outputs, b)
		}
	}
}

// files are the operands that can be opened; of any other one it is said why it can't be. No step closes them: the end of the process does.
func files(t *task.Task) []output {
	how := api.OpenWrite
	if opt.Has(t.Opts, 'a') {
		how = api.OpenAppend
	}
	var l []output
	for _, operand := range t.Operands {
		fd, e := t.Proc.Open(operand, how)
		if e != api.OK {
			t.Fail(operand, e)
			continue
		}
		l = append(l, output{fd, operand})
	}
	return l
}

// spread writes bytes to all outputs; those are left that are written to any more. When none is, what comes is read yet, so that whoever sends it is not held up.
func spread(t *task.Task, outputs []output, b []byte) []output {
	var left []output
	for _, o := range outputs {
		if t.Write(o.fd, o.name, b) {
			left = append(left, o)
		}
	}
	return left
}
