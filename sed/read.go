package sed

import (
	"strings"

	"toolchest/api"
	"toolchest/text"
)

const blanks = " \t"

// reader goes through a script's text. Blocks are listed and not called for, so that they may be as deep as they like.
type reader struct {
	left     string // what was not read yet
	commands []command
	open     []int          // the blocks that have not ended yet, each within the one ahead of it
	labels   map[string]int // the commands that they are
}

// mayNotBe is what a reader gives up by; read recovers it.
type mayNotBe struct{ why api.Errno }

func giveUp() { panic(mayNotBe{api.ErrScript}) }

// read reads a script; or it tells the first error that is in it.
func read(s string) (whole *script, e api.Errno) {
	defer func() {
		if wrong := recover(); wrong != nil {
			whole, e = nil, wrong.(mayNotBe).why
		}
	}()
	r := &reader{left: s, labels: map[string]int{}}
	r.script()
	return &script{r.commands, s == "#n" || strings.HasPrefix(s, "#n\n"), r.keeps()}, api.OK
}

// form is how a command is written.
type form struct {
	most int // addresses
	rest func(c *command)
}

// forms are those of all commands, by their letters.
func (r *reader) forms() map[byte]form {
	forms := map[byte]form{
		'{': {2, r.blockBegin}, '}': {0, r.blockEnd},
		'=': {1, r.alone}, 'q': {1, r.alone},
		'a': {1, r.text}, 'i': {1, r.text}, 'c': {2, r.text},
		':': {0, r.label}, 'b': {2, r.jump}, 't': {2, r.jump},
		'y': {2, r.exchange}, 's': {2, r.substitution},
		'#': {0, r.remark},
	}
	for _, letter := range []byte("dDgGhHnNpPx") {
		forms[letter] = form{2, r.alone}
	}
	return forms
}

// script reads all commands.
func (r *reader) script() {
	forms := r.forms()
	for r.skip(blanks + ";\n"); r.left != ""; r.skip(blanks + ";\n") {
		r.command(forms)
	}
	if len(r.open) > 0 {
		giveUp()
	}
	r.findLabels()
}

func (r *reader) command(forms map[byte]form) {
	var c command
	addresses := 0
	if c.first = r.address(); c.first != nil {
		addresses = 1
		if r.takes(',') {
			r.skip(blanks)
			addresses, c.second = 2, r.secondAddress()
		}
	}
	r.skip(blanks)
	for r.takes('!') {
		r.skip(blanks)
		c.isTurned = true
	}
	c.letter = r.take()
	form, ok := forms[c.letter]
	if !ok || addresses > form.most || c.isTurned && form.most == 0 {
		giveUp()
	}
	form.rest(&c)
	r.commands = append(r.commands, c)
}

// address is the next one; nil: there is none.
func (r *reader) address() *address {
	switch {
	case r.isAtDigit():
		return &address{kind: atLine, line: r.number(api.MaxNum)}
	case r.takes('$'):
		return &address{kind: atLast}
	case r.takes('/'):
		return &address{kind: atExpression, expr: r.expression('/')}
	case r.takes('\\'):
		return &address{kind: atExpression, expr: r.expression(r.delimiter())}
	}
	return nil
}

func (r *reader) secondAddress() *address {
	a := r.address()
	if a == nil {
		giveUp()
	}
	return a
}

// number is the next one: from 1 on, and at most so great.
func (r *reader) number(most int) int {
	n, ok := text.Number(r.upTo(func(c byte) bool { return !isDigit(c) }), most)
	if !ok || n == 0 {
		giveUp()
	}
	return n
}

// alone is behind commands of which no more is written.
func (r *reader) alone(*command) { r.end() }

// end is where a command may end: of what ends it a `}` is the next command, and all else may stand ahead of that.
func (r *reader) end() {
	r.skip(blanks)
	if r.left != "" && strings.IndexByte("\n;}", r.left[0]) < 0 {
		giveUp()
	}
}

func (r *reader) blockBegin(*command) { r.open = append(r.open, len(r.commands)) }

func (r *reader) blockEnd(*command) {
	last := len(r.open) - 1
	if last < 0 {
		giveUp()
	}
	r.commands[r.open[last]].to = len(r.commands)
	r.open = r.open[:last]
	r.end()
}

func (r *reader) remark(*command) { r.upTo(isFeed) }

// keeps tells whether the script has a command that keeps more of what was read than the line that was read last.
func (r *reader) keeps() bool {
	for i := range r.commands {
		if strings.IndexByte("GgHhxND", r.commands[i].letter) >= 0 {
			return true
		}
	}
	return false
}

// label gives the command behind it a name.
func (r *reader) label(*command) {
	name := r.name()
	if _, isThere := r.labels[name]; isThere || name == "" {
		giveUp()
	}
	r.labels[name] = len(r.commands)
}

func (r *reader) jump(c *command) { c.label = r.name() }

// name is that of a label; what ends it may stand ahead of the next command.
func (r *reader) name() string {
	r.skip(blanks)
	return strings.TrimRight(r.upTo(func(c byte) bool { return c == feed || c == ';' }), blanks)
}

// findLabels lets jumps know where they go; without a label that is behind all commands.
func (r *reader) findLabels() {
	for i := range r.commands {
		switch c := &r.commands[i]; c.letter {
		case 'b', 't':
			to, ok := r.labels[c.label]
			switch {
			case ok:
				c.to = to
			case c.label == "":
				c.to = len(r.commands)
			default:
				giveUp()
			}
		}
	}
}

func isDigit(c byte) bool { return '0' <= c && c <= '9' }

func isFeed(c byte) bool { return c == feed }

func (r *reader) isAtDigit() bool { return r.left != "" && isDigit(r.left[0]) }

// upTo takes what stands ahead of the first byte of a kind, or of the end.
func (r *reader) upTo(isEnd func(c byte) bool) string {
	n := 0
	for n < len(r.left) && !isEnd(r.left[n]) {
		n++
	}
	s := r.left[:n]
	r.left = r.left[n:]
	return s
}

// skip goes on behind all bytes that are some of these.
func (r *reader) skip(some string) { r.left = strings.TrimLeft(r.left, some) }

// takes goes on behind a byte, if it is next.
func (r *reader) takes(c byte) bool {
	if r.left == "" || r.left[0] != c {
		return false
	}
	r.left = r.left[1:]
	return true
}

// take is the next byte, which there has to be.
func (r *reader) take() byte {
	if r.left == "" {
		giveUp()
	}
	c := r.left[0]
	r.left = r.left[1:]
	return c
}
