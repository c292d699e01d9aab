package sortkit

import (
	"toolchest/api"
	"toolchest/opt"
	"toolchest/stepio"
	"toolchest/task"
)

// mayCheck tells whether what stands beside -c or -C may be there.
func mayCheck(t *task.Task) bool {
	return !opt.Has(t.Opts, 'm') && !opt.Has(t.Opts, 'o') && len(t.Operands) < 2
}

// check tells by its status whether the input is in order.
func check(t *task.Task, by ordering) {
	for in := range t.Read(t.Operands) {
		if isInOrder(t, in, by) {
			continue
		}
		if opt.Has(t.Opts, 'c') {
			stepio.Say(t.Proc, in.Text, api.ErrOrder)
		}
		t.Status = statusDisorder
	}
}

// isInOrder reads no further than the first line that may not stand where it does.
func isInOrder(t *task.Task, in *task.Input, by ordering) bool {
	var before []byte
	isFirst := true
	for line := range in.Lines() {
		if !isFirst && !by.lets(before, line) {
			return false
		}
		t.Proc.Drop(len(before))
		before, isFirst = append(before[:0], line...), false // the reader's own is gone with the next line
		t.Proc.Hold(len(before))
	}
	return true
}
