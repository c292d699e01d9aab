package flow

import (
	"toolchest/api"
	"toolchest/opt"
)

func tee(t *task) {
	outputs := append([]output{{fdOut, standardOut}}, t.files()...)
	for b, e := range t.chunks(standardIn) {
		if e != api.OK {
			t.fail(standardIn, e)
			continue
		}
		outputs = t.spread(outputs, b)
	}
}

// files are the operands that can be opened; of any other one it is said why it can't be. No step closes them: the end of the process does.
func (t *task) files() []output {
	how := api.OpenWrite
	if opt.Has(t.opts, 'a') {
		how = api.OpenAppend
	}
	var l []output
	for _, operand := range t.operands {
		fd, e := t.proc.Open(operand, how)
		if e != api.OK {
			t.fail(operand, e)
			continue
		}
		l = append(l, output{fd, operand})
	}
	return l
}

// spread writes bytes to all outputs; those are left that are written to any more. When none is, what comes is read yet, so that whoever sends it is not held up.
func (t *task) spread(outputs []output, b []byte) []output {
	var left []output
	for _, o := range outputs {
		if t.write(o, b) {
			left = append(left, o)
		}
	}
	return left
}
