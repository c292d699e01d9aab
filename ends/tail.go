package ends

import (
	"bytes"
	"strings"

	"toolchest/api"
	"toolchest/opt"
	"toolchest/task"
	"toolchest/text"
)

// telling is what tail does with its input.
type telling func(t *task.Task, in *task.Input)

func tail(t *task.Task) {
	tell, ok := tailAsked(t.Opts)
	if !ok || len(t.Operands) > 1 {
		t.Refuse()
		return
	}
	for in := range t.Read(t.Operands) {
		tell(t, in)
	}
}

// tailAsked is what the options ask for; false: they may not be.
func tailAsked(opts []api.Opt) (telling, bool) {
	lines, byLines := opt.Last(opts, 'n')
	count, byBytes := opt.Last(opts, 'c')
	switch {
	case byLines && byBytes:
		return nil, false
	case byLines:
		return asked(lines, behindFeeds, lastLines)
	case byBytes:
		return asked(count, behindBytes, lastBytes)
	}
	return lastLines(usualLines), true
}

// asked is what an option's argument asks for: with `+`, what stands from a place on, else the last ones.
func asked(arg string, behind func(n int) place, last func(n int) telling) (telling, bool) {
	digits, isFrom := strings.CutPrefix(arg, "+")
	if !isFrom {
		digits = strings.TrimPrefix(arg, "-")
	}
	n, ok := text.Number(digits, api.MaxNum)
	switch {
	case !ok:
		return nil, false
	case isFrom:
		return from(behind(max(n-1, 0))), true
	}
	return last(n), true
}

// from tells all that stands behind a place.
func from(begin place) telling {
	return func(t *task.Task, in *task.Input) {
		for b := range in.Chunks() {
			n, _ := begin(b)
			if !t.Tell(b[n:]) {
				return
			}
		}
	}
}

// lastLines tells the last n lines. Of none nothing is read.
func lastLines(n int) telling {
	return func(t *task.Task, in *task.Input) {
		if n == 0 {
			return
		}
		kept := ring[[]byte]{most: n}
		for line, hasFeed := range in.Lines() {
			whole := bytes.Clone(line) // the reader's own is gone with the next line
			if hasFeed {
				whole = append(whole, '\n')
			}
			// The oldest one is let go first: the reader holds this one yet, and no more than n + 1 lines are held.
			gone, _ := kept.put(whole)
			t.Proc.Drop(len(gone))
			t.Proc.Hold(len(whole))
		}
		for _, line := range kept.turned() {
			if !t.Tell(line) {
				return
			}
		}
	}
}

// lastBytes tells the last n bytes. Also of none all is read: whether the input fails is to be said.
func lastBytes(n int) telling {
	return func(t *task.Task, in *task.Input) {
		kept := ring[byte]{most: n}
		for b := range in.Chunks() {
			for _, x := range b {
				if _, isFull := kept.put(x); !isFull {
					t.Proc.Hold(1)
				}
			}
		}
		t.Tell(kept.turned())
	}
}
