package sed

import (
	"toolchest/api"
	"toolchest/match"
	"toolchest/regex"
)

// script is what a text is read as.
type script struct {
	commands []command
	isQuiet  bool // its first line says so
	keeps    bool // there are commands by which more is kept of what was read than the line that was read last
}

// command is one of a script, with what stands ahead of its letter and behind it.
type command struct {
	letter        byte
	first, second *address   // nil: there is none
	isTurned      bool       // it is done where it would not be
	isOpen        bool       // a range of it is open, as the script runs
	to            int        // the command with which a jump goes on, or a block that is not done
	label         string     // to which a jump goes
	text          []byte     // of a, i and c
	bytes         *[256]byte // of y: what becomes of each byte
	put           *substitution
}

// Kinds of addresses.
const (
	atLine       = iota // the line of a number
	atLast              // the last line
	atExpression        // each line in which an expression stands
)

type address struct {
	kind int
	line int
	expr *expression
}

// hasGoneBy tells whether it is a number that lies behind a line, so that it fits none any more.
func (a *address) hasGoneBy(line int) bool { return a.kind == atLine && a.line < line }

// expression is made ready to be looked for when that is done for the first time, since it may be great.
type expression struct {
	re   *regex.Re // nil: the one that was held against something last
	prog *match.Prog
}

// substitution is what s does.
type substitution struct {
	expr  *expression
	parts [][]byte // what is put in: between two of them what was found
	size  int      // bytes of them all
	nth   int      // the first one of the places that is replaced
	isAll bool     // and all behind it
	tells bool
}

// put appends what is put in for what was found; false: that is more than a space may have.
func (s *substitution) put(b, found []byte) ([]byte, bool) {
	if len(b)+s.size+(len(s.parts)-1)*len(found) > api.MaxSpace {
		return nil, false
	}
	for i, part := range s.parts {
		if i > 0 {
			b = append(b, found...)
		}
		b = append(b, part...)
	}
	return b, true
}
