package sed

import (
	"bytes"
	"slices"

	"toolchest/api"
	"toolchest/text"
)

// commands are what they do, by their letters.
func (e *editor) commands() map[byte]func(c *command) {
	return map[byte]func(c *command){
		'{': e.nothing, '}': e.nothing, ':': e.nothing, '#': e.nothing,
		'=': e.tellNumber, 'p': e.tellPattern, 'P': e.tellFirst,
		'i': e.tellText, 'a': e.append, 'c': e.change,
		'd': e.drop, 'D': e.dropFirst,
		'g': e.get, 'G': e.getBehind, 'h': e.put, 'H': e.putBehind, 'x': e.swap,
		'n': e.next, 'N': e.nextBehind, 'q': e.quit,
		'b': e.jump, 't': e.jumpIfPut,
		'y': e.exchange, 's': e.substitute,
	}
}

func (e *editor) nothing(*command) {}

func (e *editor) tellNumber(*command) { e.tellLine([]byte(text.Digits(e.lines.number, 10))) }

func (e *editor) tellPattern(*command) { e.tellLine(e.pattern) }

func (e *editor) tellFirst(*command) {
	first, _, _ := bytes.Cut(e.pattern, []byte{feed})
	e.tellLine(first)
}

func (e *editor) tellText(c *command) { e.tell(c.text) }

func (e *editor) append(c *command) { e.texts = append(e.texts, c.text) }

// change tells its text unless a range goes on: at the last time of one it is no longer open, and where none is, it is not either.
func (e *editor) change(c *command) {
	if !c.isOpen {
		e.tell(c.text)
	}
	e.letGo()
}

func (e *editor) drop(*command) { e.letGo() }

func (e *editor) dropFirst(*command) {
	_, behind, ok := bytes.Cut(e.pattern, []byte{feed})
	if !ok {
		e.letGo()
		return
	}
	e.keep(&e.pattern, behind)
	e.tellTexts()
	e.goTo(0)
}

func (e *editor) get(*command) { e.keep(&e.pattern, e.hold) }

func (e *editor) put(*command) { e.keep(&e.hold, e.pattern) }

func (e *editor) getBehind(*command) { e.addTo(&e.pattern, e.hold) }

func (e *editor) putBehind(*command) { e.addTo(&e.hold, e.pattern) }

// addTo puts bytes behind those of a space, and a line feed between.
func (e *editor) addTo(space *[]byte, b []byte) {
	if e.hasRoom(len(*space) + 1 + len(b)) {
		e.keep(space, slices.Concat(*space, []byte{feed}, b))
	}
}

func (e *editor) swap(*command) { e.pattern, e.hold = e.hold, e.pattern }

func (e *editor) next(c *command) {
	if e.isLast {
		e.quit(c)
		return
	}
	if !e.script.isQuiet {
		e.tellLine(e.pattern)
	}
	e.tellTexts()
	e.read(nil)
}

func (e *editor) nextBehind(*command) {
	if e.isLast {
		e.isOver = true
		e.letGo()
		return
	}
	e.tellTexts()
	e.read(slices.Concat(e.pattern, []byte{feed}))
}

func (e *editor) quit(*command) {
	e.isOver = true
	e.end()
}

func (e *editor) jump(c *command) { e.goTo(c.to) }

// jumpIfPut goes on elsewhere, if an s has put something in since the cycle began, or since it went on so.
func (e *editor) jumpIfPut(c *command) {
	if e.hasPut {
		e.hasPut = false
		e.goTo(c.to)
	}
}

// exchange puts other bytes in the pattern space's place, since the hold space may have these, too.
func (e *editor) exchange(c *command) {
	b := bytes.Clone(e.pattern)
	for i := range b {
		b[i] = c.bytes[b[i]]
	}
	e.keep(&e.pattern, b)
}

func (e *editor) substitute(c *command) {
	s, old := c.put, e.pattern
	var b []byte
	from, n, hasPut := 0, 0, false
	for begin, end := range e.places(s.expr) {
		n++
		if n < s.nth {
			continue
		}
		var ok bool
		if b, ok = s.put(append(b, old[from:begin]...), old[begin:end]); !ok {
			e.fail(api.ErrLine)
			return
		}
		from, hasPut = end, true
		if !s.isAll {
			break
		}
	}
	if !hasPut || !e.hasRoom(len(b)+len(old)-from) {
		return
	}
	e.keep(&e.pattern, append(b, old[from:]...))
	e.hasPut = true
	if s.tells {
		e.tellLine(e.pattern)
	}
}
