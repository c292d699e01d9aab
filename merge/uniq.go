package merge

import (
	"bytes"

	"toolchest/api"
	"toolchest/opt"
	"toolchest/task"
	"toolchest/text"
)

func uniq(t *task.Task) {
	restOf, ok := restsOf(t.Opts)
	if !ok || !mayPick(t.Opts) || len(t.Operands) > 2 {
		t.Refuse()
		return
	}
	in := t.Open(task.Inputs(t.Operands)[0])
	if in.Failed() {
		return
	}
	if tell, ok := teller(t); ok {
		tellGroups(t, sourceOf(in, restOf), tell)
	}
}

// mayPick tells whether the letters c, d and u may stand beside each other.
func mayPick(opts []api.Opt) bool {
	return !opt.Has(opts, 'c') || !opt.Has(opts, 'd') && !opt.Has(opts, 'u')
}

// teller is what tells bytes to the second operand, or else to the descriptor 1; false: that file can't be opened, and that was said.
func teller(t *task.Task) (func(b []byte) bool, bool) {
	if len(t.Operands) < 2 {
		return t.Tell, true
	}
	name := t.Operands[1]
	fd, e := t.Proc.Open(name, api.OpenWrite)
	if e != api.OK {
		t.Fail(name, e)
		return nil, false
	}
	return func(b []byte) bool { return t.Write(fd, name, b) }, true
}

// tellGroups tells of lines whose rests are the same the first one, when it is known how many there are.
func tellGroups(t *task.Task, s *source, tell func(b []byte) bool) {
	kept := store{task: t}
	for s.isAt {
		first := kept.keep(s.line)
		n := 0
		for range s.group(s.keyOf(first)) {
			n++
		}
		if isPicked(t.Opts, n) && !tell(counted(t.Opts, first, n)) {
			return
		}
		kept.empty()
	}
}

// isPicked tells whether a group of so many lines is told.
func isPicked(opts []api.Opt, n int) bool {
	return !(opt.Has(opts, 'd') && n == 1) && !(opt.Has(opts, 'u') && n > 1)
}

// counted is a line as it is told, of so many.
func counted(opts []api.Opt, line []byte, n int) []byte {
	var b []byte
	if opt.Has(opts, 'c') {
		b = append(b, text.Digits(n, 10)+" "...)
	}
	b = append(b, line...)
	return append(b, feed...)
}

// restsOf is what leaves of a line its rest; false: the options' numbers may not be.
func restsOf(opts []api.Opt) (keyOf, bool) {
	fields, isNumber := numberOf(opts, 'f', 0)
	skipped, areNumbers := numberOf(opts, 's', 0)
	restOf := func(line []byte) []byte {
		for n := 0; n < fields && len(line) > 0; n++ {
			line = behindField(line)
		}
		return line[min(skipped, len(line)):]
	}
	return restOf, isNumber && areNumbers
}

// behindField is what stands behind a line's first field, which has the blanks ahead of it.
func behindField(line []byte) []byte {
	const blanks = " \t"
	line = bytes.TrimLeft(line, blanks)
	if n := bytes.IndexAny(line, blanks); n >= 0 {
		return line[n:]
	}
	return nil
}
