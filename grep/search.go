package grep

import (
	"iter"
	"strings"

	"toolchest/match"
	"toolchest/opt"
	"toolchest/task"
	"toolchest/text"
)

// nameOfStandardIn is the descriptor 0's, where it is told.
const nameOfStandardIn = "(standard input)"

// search goes through inputs for lines that are to be selected.
type search struct {
	task    *task.Task
	prog    *match.Prog
	isNamed bool // what is told of an input stands behind its name
	found   bool // a line was selected
}

func (s *search) has(letter byte) bool { return opt.Has(s.task.Opts, letter) }

// through goes through inputs, and comes to the status.
func (s *search) through(operands []string) {
	tell := s.teller()
	for in := range s.task.Read(operands) {
		if !tell(in) {
			break
		}
	}
	switch {
	case s.found && s.has('q'):
		s.task.Status = 0 // whatever has failed ahead of that line
	case !s.found && s.task.Status == 0:
		s.task.Status = statusNone
	}
}

// teller is what is told of an input; false: it ends there.
func (s *search) teller() func(in *task.Input) bool {
	switch {
	case s.has('c'):
		return s.tellCount
	case s.has('l'):
		return s.tellName
	case s.has('q'):
		return s.tellNothing
	}
	return s.tellLines
}

func (s *search) tellLines(in *task.Input) bool {
	isNumbered := s.has('n')
	for n, line := range s.selected(in) {
		parts := s.ahead(in)
		if isNumbered {
			parts = append(parts, text.Digits(n, 10))
		}
		if !s.tell(append(parts, string(line))...) {
			return false
		}
	}
	return true
}

// tellCount tells of an input that has not failed how many lines were selected.
func (s *search) tellCount(in *task.Input) bool {
	n := 0
	for range s.selected(in) {
		n++
	}
	return in.Failed() || s.tell(append(s.ahead(in), text.Digits(n, 10))...)
}

func (s *search) tellName(in *task.Input) bool { return !s.hasOne(in) || s.tell(nameOf(in)) }

func (s *search) tellNothing(in *task.Input) bool { return !s.hasOne(in) }

// hasOne tells whether an input has a selected line, and reads no further than that.
func (s *search) hasOne(in *task.Input) bool {
	for range s.selected(in) {
		return true
	}
	return false
}

// selected are the selected lines of an input, and their numbers.
func (s *search) selected(in *task.Input) iter.Seq2[int, []byte] {
	isTurned := s.has('v')
	return func(yield func(int, []byte) bool) {
		n := 0
		for line := range in.Lines() {
			n++
			if s.prog.Has(line) == isTurned {
				continue
			}
			s.found = true
			if !yield(n, line) {
				return
			}
		}
	}
}

// ahead is what stands ahead of all that is told of an input.
func (s *search) ahead(in *task.Input) []string {
	if s.isNamed {
		return []string{nameOf(in)}
	}
	return nil
}

func nameOf(in *task.Input) string {
	if in.Text == task.StandardIn {
		return nameOfStandardIn
	}
	return in.Text
}

// tell tells the parts of a line, with a colon between two; false: it can't be told.
func (s *search) tell(parts ...string) bool {
	return s.task.Tell([]byte(strings.Join(parts, ":") + feed))
}
