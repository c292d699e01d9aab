package names_test

import (
	"math/rand"
	"strconv"
	"strings"

	"toolchest/api"
)

// chance makes jobs: always the same ones.
type chance struct{ *rand.Rand }

func chanceOf(seed int64) chance { return chance{rand.New(rand.NewSource(seed))} }

func (c chance) of(texts ...string) string { return texts[c.Intn(len(texts))] }

func (c chance) some(most int, texts ...string) string {
	var s string
	for range c.Intn(most + 1) {
		s += c.of(texts...)
	}
	return s
}

const (
	mildSigns = ".i012345"
	allSigns  = mildSigns + "......esp"
)

func (c chance) faults(signs string, most int) []api.Fault {
	return faults(c.some(most, strings.Split(signs, "")...))
}

// number is one to some base, mostly.
func (c chance) number() string {
	n := c.Int63() >> c.Intn(64)
	s := c.of(strconv.FormatInt(n, 10), strconv.FormatInt(n, 10), "0"+strconv.FormatInt(n, 8), "0x"+strconv.FormatInt(n, 16), "0X"+strings.ToUpper(strconv.FormatInt(n, 16)))
	s = c.of("", "", "-", "+") + s
	if c.Intn(6) == 0 {
		s += c.of("0", "8", "a", "g", "9", " ", ".", "x", "7")
	}
	return s
}

func (c chance) argument() string {
	switch c.Intn(5) {
	case 0:
		return c.of("'", `"`) + c.some(2, "a", "1", "\xff", "'", "ä", "\\", " ")
	case 1:
		return c.some(6, "a", "b", " ", "\n", `\`, `\n`, `\\`, `\0`, `\1`, `\01`, "0", "1", "7", "8", "\xff", "ä", "%", "%s", "-", "c", `\c`)
	case 2:
		return c.some(3, "-", "+", "0", "x", "1", "8", "9", "a", "0x", "F")
	}
	return c.number()
}

// conversion is one that mostly may be.
func (c chance) conversion() string {
	s := "%" + c.some(3, "-", "+", " ", "0", "#") + c.of("", "", "", strconv.Itoa(c.Intn(30)), strconv.Itoa(c.Intn(8))) + c.of("", "", "", ".", ".0", "."+strconv.Itoa(c.Intn(25)), ".01")
	if c.Intn(50) == 0 {
		s += c.of("", "%", ".", "-", "q", "l", "1000", "1001", "*", "f", "\x00")
	}
	return s + c.of("s", "s", "c", "b", "b", "d", "d", "i", "u", "o", "x", "X")
}

func (c chance) format() string {
	var s string
	for range c.Intn(6) {
		switch c.Intn(4) {
		case 0:
			s += c.some(3, "a", "|", " ", "\n", ",", "\xff", "ä", "0", "7", "%%", "-", "c", "s", "d")
		case 1:
			s += c.some(2, `\n`, `\\`, `\0`, `\12`, `\101`, `\777`, `\q`, `\8`, `\c`, `\%`, `\`, "\\\n", `\t`)
		default:
			s += c.conversion()
		}
	}
	return s
}

// path is one of a few parts.
func (c chance) path() string {
	return c.some(7, "/", "/", "a", "b", ".c", "..", "-", "\xff", " ")
}

// args are those of one of the utilities.
func (c chance) args() []string {
	l := []string{c.of("echo", "true", "false", "basename", "basename", "dirname", "printf", "printf", "printf", "printf", "printf", "printf")}
	if c.Intn(4) == 0 {
		l = append(l, "--")
	}
	switch l[0] {
	case "printf":
		if c.Intn(30) > 0 {
			l = append(l, c.format())
		}
		for range c.Intn(6) {
			l = append(l, c.argument())
		}
	case "basename", "dirname":
		if c.Intn(20) > 0 {
			l = append(l, c.path())
		}
		for range []int{0, 0, 0, 1, 1, 2}[c.Intn(6)] {
			l = append(l, c.of(c.path(), ".c", "b", "", "-x"))
		}
	default:
		for range c.Intn(5) {
			l = append(l, c.of("", "a", "-n", "--", "-", `\n`, c.argument()))
		}
	}
	return l
}
