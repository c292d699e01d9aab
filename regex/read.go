package regex

import "strings"

// maxTimes is the greatest number of a repetition.
const maxTimes = 255

// What was read last: what may stand behind it hangs on that.
const (
	atStart     = iota // nothing of an expression
	atBar              // nothing of a branch behind another one
	behindBegin        // the beginning
	behindEnd          // the end
	behindAtom         // an atom that may have a repetition behind it
	behindTimes        // a repetition
)

// reader goes through a text. Parentheses are counted and not called for, so that they may be as deep as they like.
type reader struct {
	left      string // what was not read yet
	ext, fold bool
	last      int  // what was read last
	depth     int  // how many expressions have not ended yet, the whole one among them
	classless bool // no class ends in what is left
	nodes     builder
}

// mayNotBe is what a reader gives up by; Parse recovers it.
type mayNotBe struct{}

func giveUp() { panic(mayNotBe{}) }

// read reads a text, and gives up, if it may not be; false: it is too great.
func read(s string, ext, fold bool) (Re, bool) {
	r := &reader{left: s, ext: ext, fold: fold}
	next := r.basic
	if ext {
		next = r.extended
	}
	r.begin()
	for r.left != "" {
		next()
	}
	r.end()
	if r.depth > 0 {
		giveUp()
	}
	return r.nodes.whole()
}

// extended reads what is next of an extended expression.
func (r *reader) extended() {
	switch c := r.take(); c {
	case '(':
		r.begin()
	case ')':
		r.endInner()
	case '|':
		r.endBranch()
		r.last = atBar
	case '*':
		r.repeat(0, endless)
	case '+':
		r.repeat(1, endless)
	case '?':
		r.repeat(0, 1)
	case '{':
		r.repeat(r.bounds("}"))
	case '^':
		r.anchor(Begin, behindBegin)
	case '$':
		r.anchor(End, behindEnd)
	case '\\':
		r.escaped(r.take())
	default:
		r.plain(c)
	}
}

// basic reads what is next of a basic expression.
func (r *reader) basic() {
	switch c := r.take(); {
	case c == '\\':
		r.basicEscaped(r.take())
	case c == '^' && r.last == atStart:
		r.anchor(Begin, behindBegin)
	case c == '$' && (r.left == "" || strings.HasPrefix(r.left, `\)`)):
		r.anchor(End, behindEnd)
	case c == '*' && r.last != atStart && r.last != behindBegin:
		r.repeat(0, endless)
	default:
		r.plain(c)
	}
}

// basicEscaped reads what is behind a backslash of a basic expression.
func (r *reader) basicEscaped(c byte) {
	switch c {
	case '(':
		r.begin()
	case ')':
		r.endInner()
	case '{':
		r.repeat(r.bounds(`\}`))
	case '}':
		giveUp()
	default:
		r.escaped(c)
	}
}

// escaped is a byte behind a backslash that stands for itself.
func (r *reader) escaped(c byte) {
	if isAlnum(c) {
		giveUp()
	}
	r.byteAlone(c)
}

// plain is what both kinds of expressions read alike.
func (r *reader) plain(c byte) {
	switch c {
	case '.':
		r.atom(turned([256]bool{}))
	case '[':
		r.atom(r.bracket())
	default:
		r.byteAlone(c)
	}
}

func (r *reader) byteAlone(c byte) { r.atom(only(c, r.fold)) }

func (r *reader) atom(has [256]bool) {
	r.nodes.piece(ofSet(has))
	r.last = behindAtom
}

func (r *reader) anchor(kind, behind int) {
	r.nodes.piece(leaf(kind))
	r.last = behind
}

func (r *reader) repeat(least, most int) {
	if r.last != behindAtom {
		giveUp()
	}
	r.nodes.repeat(least, most)
	r.last = behindTimes
}

// begin begins an expression: the whole one, or one in parentheses.
func (r *reader) begin() {
	r.nodes.begin()
	r.depth++
	r.last = atStart
}

// endBranch ends a branch; an extended expression has none without pieces.
func (r *reader) endBranch() {
	if r.ext && (r.last == atStart || r.last == atBar) {
		giveUp()
	}
	r.nodes.endBranch()
}

func (r *reader) end() {
	r.endBranch()
	r.nodes.end()
	r.depth--
}

// endInner ends an expression in parentheses, which is an atom.
func (r *reader) endInner() {
	if r.depth == 1 {
		giveUp()
	}
	r.end()
	r.last = behindAtom
}

// bounds are the numbers of a repetition, up to its end.
func (r *reader) bounds(end string) (int, int) {
	least := r.number()
	most := least
	if r.skip(",") {
		most = endless
		if r.isAtDigit() {
			most = r.number()
		}
	}
	if !r.skip(end) || most != endless && most < least {
		giveUp()
	}
	return least, most
}

func (r *reader) number() int {
	if !r.isAtDigit() {
		giveUp()
	}
	n := 0
	for r.isAtDigit() {
		n = 10*n + int(r.take()-'0')
		if n > maxTimes {
			giveUp()
		}
	}
	return n
}

func (r *reader) isAtDigit() bool { return r.left != "" && isDigit(r.left[0]) }

// take is the next byte, which there has to be.
func (r *reader) take() byte {
	if r.left == "" {
		giveUp()
	}
	c := r.left[0]
	r.left = r.left[1:]
	return c
}

// skip goes on behind a text, if it is next.
func (r *reader) skip(s string) bool {
	behind, ok := strings.CutPrefix(r.left, s)
	r.left = behind
	return ok
}
