package merge

import (
	"bytes"
	"iter"

	"toolchest/task"
)

// source is an input that is gone through line by line, perhaps while another one is.
type source struct {
	in    *task.Input
	keyOf keyOf
	line  []byte // at which it is: its reader's, till the next one is read
	key   []byte // of that line, likewise
	isAt  bool   // there is one
}

// keyOf is that of a line by which it is compared.
type keyOf func(line []byte) []byte

// sourceOf reads an input's first line.
func sourceOf(in *task.Input, keyOf keyOf) *source {
	s := &source{in: in, keyOf: keyOf}
	s.next()
	return s
}

// next goes to the next line.
func (s *source) next() {
	s.line, s.isAt = s.in.Line()
	s.key = s.keyOf(s.line)
}

// group goes through the lines with a key, from the one at which it is on, as long as they stand one behind the other.
func (s *source) group(key []byte) iter.Seq[[]byte] {
	return func(yield func([]byte) bool) {
		for s.isAt && bytes.Equal(s.key, key) {
			if !yield(s.line) {
				return
			}
			s.next()
		}
	}
}

// compare compares the keys of the lines at which both are; where one has none any more, the other one is ahead.
func compare(a, b *source) int {
	switch {
	case !b.isAt:
		return -1
	case !a.isAt:
		return 1
	}
	return bytes.Compare(a.key, b.key)
}

// store is what is held of lines that sources have gone past.
type store struct {
	task *task.Task
	held int
}

// keep copies what is a reader's.
func (s *store) keep(b []byte) []byte {
	kept := make([]byte, len(b))
	copy(kept, b)
	s.held += len(b)
	s.task.Proc.Hold(len(b))
	return kept
}

// empty lets go all that was kept.
func (s *store) empty() {
	s.task.Proc.Drop(s.held)
	s.held = 0
}
