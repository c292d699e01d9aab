package sed

import (
	"iter"
	"strings"

	"toolchest/api"
	"toolchest/regex"
)

// maxNth is the greatest number that s may have.
const maxNth = 512

// text is that of a, i and c.
func (r *reader) text(c *command) {
	r.skip(blanks)
	if r.take() != '\\' || r.take() != feed {
		giveUp()
	}
	for r.left != "" && !r.takes(feed) {
		b := r.take()
		if b == '\\' {
			if r.left == "" {
				break
			}
			b = r.take()
		}
		c.text = append(c.text, b)
	}
	c.text = append(c.text, feed)
}

// delimiter is the next byte, if it may stand around texts.
func (r *reader) delimiter() byte {
	c := r.take()
	if c == '\\' || c == feed {
		giveUp()
	}
	return c
}

// delimited goes through a text and behind its end: each byte, and whether a backslash stands ahead of it (that is none by itself). No byte alone is a line feed.
func (r *reader) delimited(end byte) iter.Seq2[byte, bool] {
	return func(yield func(byte, bool) bool) {
		for c := r.take(); c != end; c = r.take() {
			isEscaped := c == '\\'
			if isEscaped {
				c = r.take()
			} else if c == feed {
				giveUp()
			}
			if !yield(c, isEscaped) {
				return
			}
		}
	}
}

// escaped is for what a byte behind a backslash stands in each text that a byte ends; false: that is not the same in each.
func escaped(c, end byte) (byte, bool) {
	switch c {
	case end:
		return end, true
	case 'n':
		return feed, true
	}
	return 0, false
}

// expression is one that a byte ends.
func (r *reader) expression(end byte) *expression {
	var b strings.Builder
	for c, isEscaped := range r.delimited(end) {
		if isEscaped {
			plain, ok := escaped(c, end)
			switch {
			case ok:
				c = plain
			case c == feed:
				giveUp()
			default:
				b.WriteByte('\\')
			}
		}
		b.WriteByte(c)
	}
	if b.Len() == 0 {
		return &expression{}
	}
	re, e := regex.Parse(b.String(), false, false)
	if e != api.OK {
		panic(mayNotBe{e})
	}
	return &expression{re: re}
}

// exchange is of y: two texts.
func (r *reader) exchange(c *command) {
	end := r.delimiter()
	from, to := r.bytes(end), r.bytes(end)
	if len(from) != len(to) {
		giveUp()
	}
	c.bytes = new([256]byte)
	for b := range c.bytes {
		c.bytes[b] = byte(b)
	}
	var isThere [256]bool
	for i, b := range from {
		if isThere[b] {
			giveUp()
		}
		isThere[b] = true
		c.bytes[b] = to[i]
	}
	r.end()
}

// bytes is a text of y.
func (r *reader) bytes(end byte) []byte {
	var b []byte
	for c, isEscaped := range r.delimited(end) {
		if isEscaped && c != '\\' {
			plain, ok := escaped(c, end)
			if !ok {
				giveUp()
			}
			c = plain
		}
		b = append(b, c)
	}
	return b
}

// substitution is what s has behind it.
func (r *reader) substitution(c *command) {
	end := r.delimiter()
	s := &substitution{expr: r.expression(end)}
	r.replacement(s, end)
	r.flags(s)
	r.end()
	c.put = s
}

// replacement is what is put in.
func (r *reader) replacement(s *substitution, end byte) {
	var part []byte
	for c, isEscaped := range r.delimited(end) {
		if c == '&' && !isEscaped {
			s.parts = append(s.parts, part)
			part = nil
			continue
		}
		if isEscaped {
			if plain, ok := escaped(c, end); ok {
				c = plain
			} else if isDigit(c) {
				giveUp()
			}
		}
		part = append(part, c)
		s.size++
	}
	s.parts = append(s.parts, part)
}

// flags are what stands behind the replacement, each once.
func (r *reader) flags(s *substitution) {
	for {
		switch {
		case !s.isAll && r.takes('g'):
			s.isAll = true
		case !s.tells && r.takes('p'):
			s.tells = true
		case s.nth == 0 && r.isAtDigit():
			s.nth = r.number(maxNth)
		default:
			s.nth = max(s.nth, 1)
			return
		}
	}
}
