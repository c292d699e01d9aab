package trans

import (
	"bytes"
	"strings"

	"toolchest/api"
	"toolchest/text"
)

const (
	nowhere   = -1    // is rest of a string that nothing fills up
	mostTimes = 65536 // is how often a byte stands there at most, however great its number is
)

// reader goes through a string of tr, and lays behind each other what its pieces stand for.
type reader struct {
	left      string // what was not read yet
	set       []byte
	rest      int
	classless bool // no class ends in what is left, and none need be looked for once more
}

// fit is how a string's beginning fits a form.
type fit int

const (
	fitsNot fit = iota
	fits
	mayNotBe // it fits, but what it tells can't be
)

// Set is what a string of tr stands for, one byte behind the other, and where [x*] has to fill it up; below 0: nowhere.
func Set(s string) ([]byte, int, bool) {
	r := reader{left: s, rest: nowhere}
	for r.left != "" {
		if !r.next() {
			return nil, nowhere, false
		}
	}
	return r.set, r.rest, true
}

// next reads a piece by the first form that fits; false: it may not be.
func (r *reader) next() bool {
	for _, form := range []func() fit{r.class, r.equal, r.repeated, r.span, r.single} {
		if how := form(); how != fitsNot {
			return how == fits
		}
	}
	return false
}

// take lays down what a piece stands for, and goes on behind it.
func (r *reader) take(behind string, l ...byte) fit {
	r.set = append(r.set, l...)
	r.left = behind
	return fits
}

// class is `[:`, a name, `:]`.
func (r *reader) class() fit {
	inner, ok := strings.CutPrefix(r.left, "[:")
	if !ok || r.classless {
		return fitsNot
	}
	name, behind, ok := strings.Cut(inner, ":]")
	if !ok {
		r.classless = true
		return fitsNot
	}
	isOne, ok := classes()[name]
	if !ok {
		return mayNotBe
	}
	return r.take(behind, bytesOf(isOne)...)
}

// equal is `[=`, a sign, `=]`.
func (r *reader) equal() fit {
	inner, ok := strings.CutPrefix(r.left, "[=")
	if !ok {
		return fitsNot
	}
	c, inner, _ := cutSign(inner)
	behind, ok := strings.CutPrefix(inner, "=]")
	if !ok {
		return fitsNot
	}
	return r.take(behind, c)
}

// repeated is `[`, a sign, `*`, digits, `]`.
func (r *reader) repeated() fit {
	inner, ok := strings.CutPrefix(r.left, "[")
	if !ok {
		return fitsNot
	}
	c, inner, _ := cutSign(inner)
	digits, behind, ok := cutTimes(inner)
	if !ok {
		return fitsNot
	}
	times, ok := timesOf(digits)
	switch {
	case !ok:
		return mayNotBe
	case times > 0:
		return r.take(behind, bytes.Repeat([]byte{c}, min(times, mostTimes))...)
	case r.rest != nowhere:
		return mayNotBe
	}
	r.rest = len(r.set)
	return r.take(behind, c)
}

// cutTimes parts a text that begins with `*`, digits, `]` into these digits and what stands behind; false: it does not.
func cutTimes(s string) (string, string, bool) {
	s, ok := strings.CutPrefix(s, "*")
	if !ok {
		return "", "", false
	}
	n := countOf(s, isDigit)
	behind, ok := strings.CutPrefix(s[n:], "]")
	return s[:n], behind, ok
}

// timesOf is the number of digits; 0: as often as it takes.
func timesOf(digits string) (int, bool) {
	switch {
	case digits == "":
		return 0, true
	case digits[0] == '0':
		return text.Octal(digits, api.MaxNum)
	}
	return text.Number(digits, api.MaxNum)
}

// span is a sign, `-`, a sign.
func (r *reader) span() fit {
	first, behind, _ := cutSign(r.left)
	behind, ok := strings.CutPrefix(behind, "-")
	if !ok {
		return fitsNot
	}
	last, behind, ok := cutSign(behind)
	switch {
	case !ok:
		return fitsNot
	case last < first:
		return mayNotBe
	}
	return r.take(behind, bytesOf(func(c byte) bool { return first <= c && c <= last })...)
}

// single is a sign.
func (r *reader) single() fit {
	c, behind, _ := cutSign(r.left)
	return r.take(behind, c)
}
