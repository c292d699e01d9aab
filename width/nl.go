package width

import (
	"strings"

	"toolchest/api"
	"toolchest/task"
	"toolchest/text"
)

// What nl's options are, where they are not there.
const (
	usualChoice = "t"
	usualNumber = "1"
	usualPlace  = "6"
	usualFormat = "rn"
)

const greatestPlace = 100

// choice tells whether a line is numbered.
type choice func(line []byte) bool

// format is what stands ahead of a line whose number has these digits.
type format func(digits string) string

// numbering is which lines are numbered, and how.
type numbering struct {
	isNumbered choice
	from, by   int
	ahead      format
	without    string // ahead of a line that has no number
}

func nl(t *task.Task) {
	n, ok := numberingOf(t.Opts)
	if !ok || len(t.Operands) > 1 {
		t.Refuse()
		return
	}
	tellLines(t, n.becoming())
}

// becoming makes what puts ahead of each line its number, or as much room. It knows the next number.
func (n numbering) becoming() func(line []byte) pieces {
	next := n.from
	return func(line []byte) pieces {
		ahead := n.without
		if n.isNumbered(line) {
			ahead = n.ahead(text.Digits(next, 10))
			next += n.by
		}
		return func(yield func([]byte, int) bool) {
			_ = yield([]byte(ahead), 1) && yield(line, 1)
		}
	}
}

// numberingOf is what the options ask for; false: they may not be.
func numberingOf(opts []api.Opt) (numbering, bool) {
	separator := argumentOf(opts, 's', tab)
	place, isPlace := numberOf(opts, 'w', usualPlace, span{1, greatestPlace})
	from, isFrom := numberOf(opts, 'v', usualNumber, span{0, api.MaxNum})
	by, isBy := numberOf(opts, 'i', usualNumber, span{0, api.MaxNum})
	isNumbered, isChoice := choiceOf(argumentOf(opts, 'b', usualChoice))
	ahead, isFormat := formatOf(argumentOf(opts, 'n', usualFormat), place, separator)
	if !isPlace || !isFrom || !isBy || !isChoice || !isFormat {
		return numbering{}, false
	}
	without := strings.Repeat(blank, place+len(separator))
	return numbering{isNumbered, from, by, ahead, without}, true
}

// choiceOf is that of a name; false: there is none.
func choiceOf(name string) (choice, bool) {
	switch name {
	case "t":
		return func(line []byte) bool { return len(line) > 0 }, true
	case "a":
		return func([]byte) bool { return true }, true
	case "n":
		return func([]byte) bool { return false }, true
	}
	return nil, false
}

// formatOf is that of a kind of numbers, which have a place of so many bytes; false: there is no such kind.
func formatOf(kind string, place int, separator string) (format, bool) {
	room := func(digits, sign string) string { return strings.Repeat(sign, max(0, place-len(digits))) }
	switch kind {
	case "rn":
		return func(digits string) string { return together(room(digits, blank), digits, separator) }, true
	case "rz":
		return func(digits string) string { return together(room(digits, "0"), digits, separator) }, true
	case "ln":
		return func(digits string) string { return together(digits, room(digits, blank), separator) }, true
	}
	return nil, false
}

// together puts a format's parts one behind the other.
func together(parts ...string) string { return strings.Join(parts, "") }
