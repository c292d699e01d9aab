package logic_test

import (
	"math/rand"
	"strconv"
	"strings"

	"toolchest/api"
)

// chance makes jobs: always the same ones.
type chance struct{ *rand.Rand }

func chanceOf(seed int64) chance { return chance{rand.New(rand.NewSource(seed))} }

func (c chance) of(texts ...string) string { return texts[c.Intn(len(texts))] }

func (c chance) some(most int, texts ...string) string {
	var s string
	for range c.Intn(most + 1) {
		s += c.of(texts...)
	}
	return s
}

const (
	mildSigns = ".i012345"
	allSigns  = mildSigns + "......esp"
)

func (c chance) faults(signs string, most int) []api.Fault {
	return faults(c.some(most, strings.Split(signs, "")...))
}

// number is one, mostly.
func (c chance) number() string {
	n := c.Int63() >> c.Intn(64)
	if c.Intn(2) == 0 {
		n = c.Int63n(12)
	}
	s := c.of("", "", "", "0", "00") + strconv.FormatInt(n, 10)
	switch c.Intn(30) {
	case 0:
		return c.of("-9223372036854775808", "9223372036854775807", "-9223372036854775807", "9223372036854775808", "-9223372036854775809", "00000000000000000000000000000000001", "18446744073709551616")
	case 1:
		return c.of("+", "", " ", "--", "-") + s + c.of("", "a", " ", ".", "\n")
	}
	return c.of("", "", "-") + s
}

func (c chance) text() string {
	switch c.Intn(4) {
	case 0:
		return c.of("", "", "0", "-0", "00", "-", "+", "a", "ab", "b")
	case 1:
		return c.some(6, "a", "b", "c", "a", "1", "*", "^", "$", ".", "\xff", "ä", "\n")
	}
	return c.number()
}

// pattern is a basic expression that mostly may be.
func (c chance) pattern() string {
	if c.Intn(40) == 0 {
		return c.of("[", `\`, `\a`, `[a`, `\{`, great, justGreat, `a\)\`, `\(`, `\)`, `[]`)
	}
	s := c.of("", "", "", "^") + c.some(4, "a", "b", ".", "a*", ".*", "[ab]", "[^a]*", `\(a\)`, `\(b*\)*`, `\(`, `\)`, "c", "1", "*", `\*`, `\.`, `\{2\}`, `b\{1,\}`, `a\{0,2\}`, "^", "$", "\xff", "ä", "[0-9]*", `\)\(`, `\(^a\)`)
	return s + c.of("", "", "$")
}

var exprSigns = strings.Fields("| & = > >= < <= != + - * / % :")

// expression is one with values, signs and parentheses.
func (c chance) expression(depth int) []string {
	var l []string
	for {
		switch {
		case depth > 0 && c.Intn(5) == 0:
			l = append(l, "(")
			l = append(l, c.expression(depth-1)...)
			l = append(l, ")")
		case c.Intn(25) == 0:
			l = append(l, c.of(exprSigns...))
		case len(l) > 0 && l[len(l)-1] == ":":
			l = append(l, c.pattern())
		case c.Intn(3) == 0:
			l = append(l, c.text())
		default:
			l = append(l, c.number())
		}
		if c.Intn(3) == 0 || len(l) > 12 {
			return l
		}
		l = append(l, c.of(exprSigns...))
	}
}

// damaged is a list with something changed in it.
func (c chance) damaged(l []string) []string {
	at := c.Intn(len(l))
	switch c.Intn(3) {
	case 0:
		return append(append([]string(nil), l[:at]...), l[at+1:]...)
	case 1:
		return append(append([]string(nil), l[:at]...), append([]string{c.of("(", ")", "+", "a", "", ":", "|")}, l[at:]...)...)
	}
	l[at] = c.of("(", ")", "*", "1", "&", "=")
	return l
}

// check is what test tells, mostly.
func (c chance) check() []string {
	var l []string
	switch c.Intn(5) {
	case 0:
		l = []string{c.text()}
	case 1:
		l = []string{c.of("-z", "-n"), c.of("", "", "a", c.text())}
	case 2:
		l = []string{c.of("-e", "-d", "-f", "-s", "-r", "-w", "-x"), c.path()}
	case 3:
		l = []string{c.text(), c.of("=", "!="), c.text()}
	case 4:
		l = []string{c.number(), c.of("-eq", "-ne", "-gt", "-ge", "-lt", "-le"), c.number()}
	}
	for c.Intn(3) == 0 {
		if c.Intn(2) == 0 {
			l = append([]string{"!"}, l...)
		} else {
			l = append(append([]string{"("}, l...), ")")
		}
	}
	if c.Intn(6) == 0 {
		l = c.damaged(l)
	}
	return l
}

// path is one of those that lead somewhere, mostly.
func (c chance) path() string {
	if c.Intn(4) == 0 {
		return c.some(4, "d", "/", "x", "..", ".", "f", "e", "/", "")
	}
	return c.of("d", "/d/x", "d/y/", "e", "f", "g", "h", "i", "-n", "!", "(", "=", "/", ".", "..", "nof", "f/", "d/x/y", "d/../e", "d//x", "")
}

// args are those of one of the utilities.
func (c chance) args() []string {
	switch c.Intn(4) {
	case 0:
		return append([]string{"test"}, c.check()...)
	case 1:
		l := append(append([]string{"["}, c.check()...), "]")
		if c.Intn(20) == 0 {
			l = append([]string{"["}, c.damaged(l[1:])...)
		}
		return l
	}
	l := c.expression(3)
	if c.Intn(10) == 0 {
		l = c.damaged(l)
	}
	return append([]string{"expr"}, l...)
}
