package cols

import (
	"toolchest/api"
	"toolchest/opt"
	"toolchest/task"
)

func paste(t *task.Task) {
	signs, ok := signsOf(t.Opts)
	switch {
	case !ok:
		t.Refuse()
	case opt.Has(t.Opts, 's'):
		pasteEach(t, signs)
	default:
		pasteAcross(t, signs)
	}
}

// signsOf are those of the list that the options tell; false: there are none.
func signsOf(opts []api.Opt) ([]string, bool) {
	list, ok := opt.Last(opts, 'd')
	if !ok {
		return []string{"\t"}, true
	}
	var signs []string
	for len(list) > 0 {
		n, sign := firstSign(list)
		signs = append(signs, sign)
		list = list[n:]
	}
	return signs, len(signs) > 0
}

// firstSign is how many bytes of a list are its first sign, and what that stands for.
func firstSign(list string) (int, string) {
	if list[0] != '\\' || len(list) == 1 {
		return 1, list[:1]
	}
	switch list[1] {
	case 'n':
		return 2, "\n"
	case 't':
		return 2, "\t"
	case '0':
		return 2, ""
	}
	return 2, list[1:2]
}

// turns makes what tells the signs, one after the other, and from the first one on again.
func turns(signs []string) func() string {
	n := 0
	return func() string {
		sign := signs[n%len(signs)]
		n++
		return sign
	}
}

// pasteEach tells of each input its lines as one.
func pasteEach(t *task.Task, signs []string) {
	for in := range t.Read(t.Operands) {
		if !tellAsOne(t, in, turns(signs)) {
			return
		}
	}
}

// tellAsOne tells an input's lines with signs between them; false: they can't be told.
func tellAsOne(t *task.Task, in *task.Input, sign func() string) bool {
	var between []byte
	isBegun := false
	for line := range in.Lines() {
		if !t.Tell(joined(between, line, "")) {
			return false
		}
		between, isBegun = []byte(sign()), true
	}
	if in.Failed() && !isBegun {
		return true
	}
	return t.Tell([]byte(feed))
}

// pasteAcross tells the first lines of all inputs as one, then the next ones.
func pasteAcross(t *task.Task, signs []string) {
	inputs := openAll(t)
	for tellRow(t, inputs, turns(signs)) {
	}
	for _, in := range inputs {
		in.Close()
	}
}

// openAll opens the inputs. Those that are the descriptor 0 are one.
func openAll(t *task.Task) []*task.Input {
	var inputs []*task.Input
	var standard *task.Input
	for _, operand := range task.Inputs(t.Operands) {
		in := standard
		if operand != task.StandardIn || standard == nil {
			in = t.Open(operand)
		}
		if operand == task.StandardIn {
			standard = in
		}
		inputs = append(inputs, in)
	}
	return inputs
}

// tellRow tells the next line of each input, with signs between them; false: none has one any more, or they can't be told. Each line is told as it comes, so that of no input more than one is held; only the signs behind those that have ended wait for the first that has a line yet.
func tellRow(t *task.Task, inputs []*task.Input, sign func() string) bool {
	var ahead []byte
	isRow := false
	for i, in := range inputs {
		line, ok := in.Line()
		isRow = isRow || ok
		behind := feed
		if i < len(inputs)-1 {
			behind = sign()
		}
		if !isRow {
			ahead = append(ahead, behind...)
			continue
		}
		if !t.Tell(joined(ahead, line, behind)) {
			return false
		}
		ahead = nil
	}
	return isRow
}
