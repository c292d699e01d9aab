package ends

import (
	"toolchest/api"
	"toolchest/opt"
	"toolchest/task"
	"toolchest/text"
)

func head(t *task.Task) {
	lines, ok := headAsked(t.Opts)
	if !ok {
		t.Refuse()
		return
	}
	title := titles(len(t.Operands))
	for in := range t.Read(t.Operands) {
		if !in.IsReadable() {
			continue
		}
		if !t.Tell(title(in.Text)) || !tellUpTo(t, in, behindFeeds(lines)) {
			return
		}
	}
}

// headAsked is how many lines the options ask for; false: they may not be.
func headAsked(opts []api.Opt) (int, bool) {
	arg, ok := opt.Last(opts, 'n')
	if !ok {
		return usualLines, true
	}
	n, ok := text.Number(arg, api.MaxNum)
	return n, ok && n > 0
}

// titles makes what stands ahead of each input, of so many operands: nothing, where no other one need be told from it.
func titles(operands int) func(name string) []byte {
	ahead := ""
	return func(name string) []byte {
		if operands < 2 {
			return nil
		}
		title := ahead + "==> " + name + " <==\n"
		ahead = "\n"
		return []byte(title)
	}
}

// tellUpTo tells an input's bytes up to a place, and reads no further; false: they can't be told.
func tellUpTo(t *task.Task, in *task.Input, end place) bool {
	for b := range in.Chunks() {
		n, isThere := end(b)
		if !t.Tell(b[:n]) {
			return false
		}
		if isThere {
			break
		}
	}
	return true
}
