package task

import (
	"iter"

	"toolchest/api"
	"toolchest/stepio"
)

// Input is an operand that is read.
type Input struct {
	Text   string // its operand
	task   *Task
	fd     int
	reader *stepio.Reader // nil: it says no bytes
	failed bool
}

// Inputs are the operands that are read: of none the descriptor 0.
func Inputs(operands []string) []string {
	if len(operands) == 0 {
		return []string{StandardIn}
	}
	return operands
}

// Open opens an input. One that can't be opened is said; it has failed, and says no bytes.
func (t *Task) Open(operand string) *Input {
	in := &Input{Text: operand, task: t}
	fd, e := stepio.Open(t.Proc, operand)
	if !in.fails(e) {
		in.fd, in.reader = fd, stepio.New(t.Proc, fd)
	}
	return in
}

// OpenInTurn is Open, of one of inputs that are read one behind the other: where the descriptor 0 is one twice, it says no bytes the second time, even if it has failed the first time and might go on.
func (t *Task) OpenInTurn(operand string) *Input {
	if operand == StandardIn {
		if t.heard {
			return &Input{Text: operand, task: t}
		}
		t.heard = true
	}
	return t.Open(operand)
}

// Free lets go what is held of it, for whoever holds by itself what it keeps of it while it is closed.
func (in *Input) Free() {
	if in.reader != nil {
		in.reader.Free()
	}
}

// Close closes it: nothing is held of it, and it says no bytes any more.
func (in *Input) Close() {
	if in.reader == nil {
		return
	}
	in.Free()
	in.reader = nil
	stepio.Close(in.task.Proc, in.fd)
}

// Read goes through the inputs of operands (of none: the descriptor 0). One that can't be opened is said, and has no turn. Behind its turn nothing of an input is held any more, and it is closed.
func (t *Task) Read(operands []string) iter.Seq[*Input] {
	return func(yield func(*Input) bool) {
		for _, operand := range Inputs(operands) {
			if !t.turn(operand, yield) {
				return
			}
		}
	}
}

// turn is an input's, in which it is read by what is told whether to go on with the next one.
func (t *Task) turn(operand string, read func(*Input) bool) bool {
	in := t.OpenInTurn(operand)
	if in.failed {
		return true
	}
	goesOn := read(in)
	in.Close()
	return goesOn
}

// Chunks are the bytes that it says, as they are read. If it fails, that is said, and it is as if it ended there.
func (in *Input) Chunks() iter.Seq[[]byte] {
	return func(yield func([]byte) bool) {
		for in.reader != nil {
			b, e := in.reader.Chunk()
			if in.fails(e) || len(b) == 0 || !yield(b) {
				return
			}
		}
	}
}

// Lines are its lines, each without its line feed, and whether it had one. If it fails, that is said, and it is as if it ended ahead of the line that can't be read to its end.
func (in *Input) Lines() iter.Seq2[[]byte, bool] {
	return func(yield func([]byte, bool) bool) {
		for {
			line, ok := in.Line()
			if !ok || !yield(line, in.reader.Feed()) {
				return
			}
		}
	}
}

// Line is the next one of its lines; false: there is none any more.
func (in *Input) Line() ([]byte, bool) {
	if in.reader == nil || in.failed {
		return nil, false
	}
	line, ok, e := in.reader.Line()
	if in.fails(e) {
		return nil, false
	}
	return line, ok
}

// Bytes are the next ones that it says, at most so many, for whoever tells by itself what is held of them, and how far is read: with these neither lines nor chunks are read of it. None: it has ended, or failed, and that was said.
func (in *Input) Bytes(most int) []byte {
	if in.reader == nil || in.failed {
		return nil
	}
	b, e := in.task.Proc.Read(in.fd, most)
	for e == api.ErrIntr {
		b, e = in.task.Proc.Read(in.fd, most)
	}
	if in.fails(e) {
		return nil
	}
	return b
}

// IsReadable looks whether there is another byte, or the end; false: neither, and that was said.
func (in *Input) IsReadable() bool {
	if in.reader == nil {
		return true
	}
	_, e := in.reader.More()
	return !in.fails(e)
}

// HasMore tells whether there is another byte. One that fails there is said, and has none.
func (in *Input) HasMore() bool {
	if in.reader == nil || in.failed {
		return false
	}
	more, e := in.reader.More()
	return !in.fails(e) && more
}

// Fail says what is wrong with what was read of it: it has ended there.
func (in *Input) Fail(e api.Errno) { in.fails(e) }

// Failed tells whether something of it has failed.
func (in *Input) Failed() bool { return in.failed }

func (in *Input) fails(e api.Errno) bool {
	if e == api.OK {
		return false
	}
	if !in.task.Silent {
		stepio.Say(in.task.Proc, in.Text, e)
	}
	in.task.Status = in.task.failed
	in.failed = true
	return true
}
