package stepio

import (
	"iter"

	"toolchest/api"
	"toolchest/proc"
)

// What stands for the descriptors 0 and 1 where an operand does.
const (
	standardIn  = "-"
	standardOut = "standard output"
)

const statusFailed = 1

// Start runs a process called chunks or lines.
func Start(p *proc.Proc) *proc.Machine {
	switch nameOf(p) {
	case "chunks":
		return proc.Go(p, chunks)
	case "lines":
		return proc.Go(p, lines)
	}
	return nil
}

// Run runs a job of one.
func Run(j api.Job) (api.Result, bool) { return proc.Run(j, Start) }

func chunks(p *proc.Proc) int { return tellInputs(p, (*Reader).Chunk) }

func lines(p *proc.Proc) int { return tellInputs(p, markedLine) }

// markedLine is the next line with signs round it that say whether it had a line feed; no bytes at the end.
func markedLine(r *Reader) ([]byte, api.Errno) {
	line, ok, e := r.Line()
	if !ok {
		return nil, e
	}
	left, right := byte('('), byte(')')
	if r.Feed() {
		left, right = '[', ']'
	}
	b := append([]byte{left}, line...)
	return append(b, right, '\n'), api.OK
}

// tellInputs writes what next takes of each input, till it takes none.
func tellInputs(p *proc.Proc, next func(*Reader) ([]byte, api.Errno)) int {
	status := 0
	fail := func(operand string, e api.Errno) {
		Say(p, operand, e)
		status = statusFailed
	}
inputs:
	for operand, r := range opened(p, fail) {
		for {
			b, e := next(r)
			switch {
			case e != api.OK:
				fail(operand, e)
				continue inputs
			case len(b) == 0:
				continue inputs
			}
			if e := Write(p, fdOut, b); e != api.OK {
				Say(p, standardOut, e)
				return statusFailed
			}
		}
	}
	return status
}

// opened are the inputs that can be opened, each closed behind its turn; of any other one it is told why it can't be. The descriptor 0 has one reader, however often it is an input: where that is at its end, it stays there.
func opened(p *proc.Proc, fail func(string, api.Errno)) iter.Seq2[string, *Reader] {
	return func(yield func(string, *Reader) bool) {
		standard := New(p, fdIn)
		for _, operand := range inputs(p) {
			fd, e := Open(p, operand)
			if e != api.OK {
				fail(operand, e)
				continue
			}
			r := standard
			if operand != standardIn {
				r = New(p, fd)
			}
			if !yield(operand, r) {
				return // the process ends, and that closes all
			}
			Close(p, fd)
		}
	}
}

// inputs are a process's arguments, or the one that stands for none.
func inputs(p *proc.Proc) []string {
	operands := p.Args()[1:]
	if len(operands) == 0 {
		return []string{standardIn}
	}
	return operands
}
