package sortkit

import (
	"bytes"
	"iter"
	"slices"

	"toolchest/proc"
)

const feed = '\n'

// hoard is what is held of the inputs. All of it is whole lines, but for the last one, as long as its end was not read.
type hoard struct {
	proc  *proc.Proc
	line  int    // bytes that a line may have
	data  []byte // lines in the order of the inputs, each with a line feed
	begin int    // where the line begins whose end was not read
}

// add takes what was read; false: the last line is too long, whatever was read behind it.
func (h *hoard) add(b []byte) bool {
	h.proc.Hold(len(b))
	at := len(h.data)
	h.data = append(h.data, b...)
	for {
		n := bytes.IndexByte(h.data[at:], feed)
		end := at + n
		if n < 0 {
			end = len(h.data)
		}
		switch {
		case end-h.begin > h.line:
			return false
		case n < 0:
			return true
		}
		at = end + 1
		h.begin = at
	}
}

// isWhole tells whether all of it is whole lines.
func (h *hoard) isWhole() bool { return h.begin == len(h.data) }

// endLine is for the end of an input, whose last line may lack its line feed.
func (h *hoard) endLine() {
	if !h.isWhole() {
		h.add([]byte{feed})
	}
}

// dropLine lets go what there is of a line whose end can't be read, and what was read behind it.
func (h *hoard) dropLine() {
	h.proc.Drop(len(h.data) - h.begin)
	h.data = h.data[:h.begin]
}

// empty lets go all of it.
func (h *hoard) empty() {
	h.proc.Drop(len(h.data))
	h.data, h.begin = h.data[:0], 0
}

// sorted are its lines in order, of those that are the same the first one first.
func (h *hoard) sorted(by ordering) iter.Seq[[]byte] {
	var lines [][]byte
	for line := range bytes.Lines(h.data) {
		lines = append(lines, line[:len(line)-1])
	}
	slices.SortStableFunc(lines, by.compare)
	return func(yield func([]byte) bool) {
		for i, line := range lines {
			if i > 0 && !by.lets(lines[i-1], line) {
				continue
			}
			if !yield(line) {
				return
			}
		}
	}
}
