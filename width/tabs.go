package width

import (
	"bytes"

	"toolchest/opt"
	"toolchest/task"
)

func expand(t *task.Task) {
	next, ok := stopsOf(t.Opts)
	if !ok {
		t.Refuse()
		return
	}
	tellLines(t, func(line []byte) pieces { return expanded(line, next) })
}

// expanded is a line with blanks for its tabs.
func expanded(line []byte, next stopping) pieces {
	return func(yield func([]byte, int) bool) {
		var at column
		for i, b := range line {
			from := at
			at.goOn(b, next)
			piece, times := line[i:i+1], 1
			if b == '\t' {
				piece, times = []byte(blank), int(at-from)
			}
			if !yield(piece, times) {
				return
			}
		}
	}
}

func unexpand(t *task.Task) {
	next, ok := stopsOf(t.Opts)
	if !ok {
		t.Refuse()
		return
	}
	all := opt.Has(t.Opts, 'a') || opt.Has(t.Opts, 't')
	tellLines(t, func(line []byte) pieces { return unexpanded(line, next, all) })
}

// unexpanded is a line with tabs for its runs, or for that at its beginning alone, as far as they reach a stop.
func unexpanded(line []byte, next stopping, all bool) pieces {
	return func(yield func([]byte, int) bool) {
		var at column
		for rest := line; len(rest) > 0; {
			run, word := firstRun(rest)
			rest = nil
			if all {
				word, rest = firstWord(word)
			}
			from := at
			at.goOnBy(run, next)
			tabs, blanks := runOf(run, from, at, next)
			at.goOnBy(word, next)
			if !yield([]byte(tab), tabs) || !yield([]byte(blank), blanks) || !yield(word, 1) {
				return
			}
		}
	}
}

// runOf is how many tabs, and how many blanks behind them, a run from one column to another one becomes.
func runOf(run []byte, from, to column, next stopping) (tabs, blanks int) {
	if string(run) == blank {
		return 0, 1
	}
	for {
		stop, ok := next(int(from))
		if !ok || stop > int(to) {
			return tabs, int(to - from)
		}
		tabs++
		from = column(stop)
	}
}

// firstRun is the run of blanks and tabs at a line's beginning, perhaps none, and what stands behind it.
func firstRun(line []byte) (run, rest []byte) {
	rest = bytes.TrimLeft(line, blank+tab)
	return line[:len(line)-len(rest)], rest
}

// firstWord is what stands ahead of the first run, and all from that on.
func firstWord(line []byte) (word, rest []byte) {
	i := bytes.IndexAny(line, blank+tab)
	if i < 0 {
		return line, nil
	}
	return line[:i], line[i:]
}
