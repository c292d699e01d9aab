package flow

import "toolchest/task"

func cat(t *task.Task) {
	for in := range t.Read(t.Operands) {
		for b := range in.Chunks() {
			if !t.Tell(b) {
				return
			}
		}
	}
}
