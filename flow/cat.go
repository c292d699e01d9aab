package flow

import "toolchest/api"

func cat(t *task) {
	for _, operand := range t.inputs() {
		for b, e := range t.chunks(operand) {
			switch {
			case e != api.OK:
				t.fail(operand, e)
			case !t.tell(b):
				return
			}
		}
	}
}
