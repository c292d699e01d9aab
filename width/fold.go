package width

import (
	"bytes"

	"toolchest/api"
	"toolchest/opt"
	"toolchest/task"
)

const usualWidth = "80"

// foldStop is the number at whose multiples fold's tabs stop.
const foldStop = 8

// moving moves a column by a byte of a segment.
type moving func(at *column, b byte)

// folding is how lines are cut.
type folding struct {
	most     int
	move     moving
	atBlanks bool
}

func fold(t *task.Task) {
	most, ok := numberOf(t.Opts, 'w', usualWidth, span{1, api.MaxNum})
	if !ok {
		t.Refuse()
		return
	}
	f := folding{most: most, move: movingOf(t.Opts), atBlanks: opt.Has(t.Opts, 's')}
	tellLines(t, f.become)
}

// movingOf is how the options let a segment's width be told.
func movingOf(opts []api.Opt) moving {
	if opt.Has(opts, 'b') {
		return func(at *column, _ byte) { *at++ }
	}
	next := stoppingAt([]int{foldStop})
	return func(at *column, b byte) {
		if b == '\r' {
			*at = 0
			return
		}
		at.goOn(b, next)
	}
}

// become is a line's segments with line feeds between them.
func (f folding) become(line []byte) pieces {
	return func(yield func([]byte, int) bool) {
		begin, width := 0, column(0)
		for i := 0; i < len(line); {
			wider := width
			f.move(&wider, line[i])
			if int(wider) <= f.most || i == begin {
				width = wider
				i++
				continue
			}
			end := begin + f.cut(line[begin:i])
			if !yield(line[begin:end], 1) || !yield([]byte(feed), 1) {
				return
			}
			// What the cut leaves may be too wide yet with this byte, which is asked of once more.
			begin, width = end, f.width(line[end:i])
		}
		yield(line[begin:], 1)
	}
}

// cut is how many bytes of a segment stand ahead of the cut.
func (f folding) cut(segment []byte) int {
	if f.atBlanks {
		if i := bytes.LastIndexAny(segment, blank+tab); i >= 0 {
			return i + 1
		}
	}
	return len(segment)
}

func (f folding) width(segment []byte) column {
	var at column
	for _, b := range segment {
		f.move(&at, b)
	}
	return at
}
