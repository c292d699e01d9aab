package names

import (
	"strconv"
	"strings"
)

const noPrecision = -1

// conversion is how an argument is told.
type conversion struct {
	minus, plus, blank, nought, sharp bool // the flags

	width     int
	precision int
}

// takeFlag takes a byte as a flag; false: it is none.
func (c *conversion) takeFlag(flag byte) bool {
	switch flag {
	case '-':
		c.minus = true
	case '+':
		c.plus = true
	case ' ':
		c.blank = true
	case '0':
		c.nought = true
	case '#':
		c.sharp = true
	default:
		return false
	}
	return true
}

// byLetter takes an argument and tells it as a letter asks for; nil: there is no such letter.
func (c conversion) byLetter(letter byte) part {
	base := 10
	turned := func(s string) string { return s }
	switch letter {
	case 'b':
		return func(p *printer) {
			arg, ends := unescaped(p.next())
			p.put(c.ofText(arg))
			p.ended = ends
		}
	case 'c':
		c.precision = 1
		fallthrough
	case 's':
		return func(p *printer) { p.put(c.ofText(p.next())) }
	case 'd', 'i':
		return func(p *printer) { p.put(c.ofSigned(p.number())) }
	case 'X':
		turned = strings.ToUpper
		fallthrough
	case 'x':
		base = 16
	case 'o':
		base = 8
	case 'u':
	default:
		return nil
	}
	return func(p *printer) { p.put(turned(c.ofUnsigned(uint64(p.number()), base))) }
}

func (c conversion) ofText(s string) string {
	if c.precision != noPrecision {
		s = s[:min(len(s), c.precision)]
	}
	c.nought = false // noughts are ahead of numbers alone
	return c.toWidth("", s)
}

func (c conversion) ofSigned(n int64) string {
	sign, size := "", uint64(n)
	switch {
	case n < 0:
		sign, size = "-", -size // wrapped round, so that the least number has its size, too
	case c.plus:
		sign = "+"
	case c.blank:
		sign = " "
	}
	return c.toWidth(sign, c.digits(size, 10))
}

func (c conversion) ofUnsigned(n uint64, base int) string {
	mark, digits := "", c.digits(n, base)
	switch {
	case !c.sharp:
	case base == 8 && !strings.HasPrefix(digits, "0"):
		mark = "0"
	case base == 16 && n != 0:
		mark = "0x"
	}
	return c.toWidth(mark, digits)
}

// digits are those of a number, with noughts ahead to the precision.
func (c conversion) digits(n uint64, base int) string {
	if n == 0 && c.precision == 0 {
		return ""
	}
	s := strconv.FormatUint(n, base)
	return strings.Repeat("0", max(0, c.precision-len(s))) + s
}

// toWidth fills up what is told and what stands ahead of it.
func (c conversion) toWidth(ahead, s string) string {
	room := max(0, c.width-len(ahead)-len(s))
	switch blanks := strings.Repeat(" ", room); {
	case c.minus:
		return ahead + s + blanks
	case c.nought && c.precision == noPrecision:
		return ahead + strings.Repeat("0", room) + s
	default:
		return blanks + ahead + s
	}
}
