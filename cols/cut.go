package cols

import (
	"bytes"

	"toolchest/api"
	"toolchest/opt"
	"toolchest/task"
)

// cutter makes of a line what is told of it; false: it is not told at all.
type cutter func(line []byte) ([]byte, bool)

func cut(t *task.Task) {
	cutLine, ok := cutterOf(t.Opts)
	if !ok {
		t.Refuse()
		return
	}
	for in := range t.Read(t.Operands) {
		for line := range in.Lines() {
			left, isTold := cutLine(line)
			if isTold && !t.Tell(joined(nil, left, feed)) {
				return
			}
		}
	}
}

// cutterOf is what the options ask for; false: they may not be.
func cutterOf(opts []api.Opt) (cutter, bool) {
	kind := kindOf(opts)
	list, isThere := opt.Last(opts, kind)
	spans, isList := List(list)
	c, isByte := delimiterOf(opts)
	switch {
	case !isThere || !isList || !isByte:
		return nil, false
	case kind == 'f':
		return fieldCutter(placesOf(spans), c, opt.Has(opts, 's')), true
	}
	return byteCutter(placesOf(spans)), true
}

// kindOf is that of the letters b, c and f to which all options belong (0, which is no option's, if there is none); it need not be among them.
func kindOf(opts []api.Opt) byte {
	var kind byte
	for i, o := range opts {
		belongs := belongsTo(o.Letter)
		if i > 0 && belongs != kind {
			return 0
		}
		kind = belongs
	}
	return kind
}

func belongsTo(letter byte) byte {
	switch letter {
	case 'n':
		return 'b'
	case 'd', 's':
		return 'f'
	}
	return letter
}

// delimiterOf is the byte between two fields; false: it is not one.
func delimiterOf(opts []api.Opt) (byte, bool) {
	c, ok := opt.Last(opts, 'd')
	switch {
	case !ok:
		return '\t', true
	case len(c) != 1:
		return 0, false
	}
	return c[0], true
}

// byteCutter leaves the bytes at the places that are asked for.
func byteCutter(isAsked places) cutter {
	return func(line []byte) ([]byte, bool) {
		var left []byte
		for i, c := range line {
			if isAsked(i + 1) {
				left = append(left, c)
			}
		}
		return left, true
	}
}

// fieldCutter leaves the fields at the places that are asked for. A line that has but one field, for want of a delimiter, is left whole, or not told.
func fieldCutter(isAsked places, delimiter byte, onlyDelimited bool) cutter {
	between := []byte{delimiter}
	return func(line []byte) ([]byte, bool) {
		if !bytes.Contains(line, between) {
			return line, !onlyDelimited
		}
		var left [][]byte
		for i, field := range bytes.Split(line, between) {
			if isAsked(i + 1) {
				left = append(left, field)
			}
		}
		return bytes.Join(left, between), true
	}
}
