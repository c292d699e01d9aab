package logic

import (
	"strconv"

	"toolchest/api"
	"toolchest/match"
	"toolchest/regex"
	"toolchest/task"
)

func expr(t *task.Task) {
	value, err := evaluate(t.Operands)
	if err != nil {
		complain(t, err)
		return
	}
	if isNull(value) {
		t.Status = statusFalse
	}
	if !t.Tell([]byte(value + "\n")) {
		t.Status = statusUntold
	}
}

// isNull: a value has no bytes, or is the number 0.
func isNull(s string) bool {
	n, ok := readNumber(s)
	return s == "" || ok && n == 0
}

// How strong operators are. A parenthesis waits as one that is weaker than all of them.
const (
	ofParenthesis = iota
	ofEither
	ofBoth
	ofComparison
	ofSum
	ofProduct
	ofMatch
)

// operator makes of the values on its sides one.
type operator struct {
	strength int
	reckon   func(a, b string) (string, error)
}

// operators are all of them, by their signs.
func operators() map[string]operator {
	return map[string]operator{
		"|":  {ofEither, either},
		"&":  {ofBoth, both},
		"=":  {ofComparison, compared(isSame)},
		"!=": {ofComparison, compared(isOther)},
		">":  {ofComparison, compared(isAbove)},
		">=": {ofComparison, compared(isNotBelow)},
		"<":  {ofComparison, compared(isBelow)},
		"<=": {ofComparison, compared(isNotAbove)},
		"+":  {ofSum, reckoned(sum)},
		"-":  {ofSum, reckoned(difference)},
		"*":  {ofProduct, reckoned(product)},
		"/":  {ofProduct, reckoned(quotient)},
		"%":  {ofProduct, reckoned(rest)},
		":":  {ofMatch, matched},
	}
}

func either(a, b string) (string, error) {
	switch {
	case !isNull(a):
		return a, nil
	case b != "":
		return b, nil
	}
	return "0", nil
}

func both(a, b string) (string, error) {
	if isNull(a) || isNull(b) {
		return "0", nil
	}
	return a, nil
}

func compared(holds func(order int) bool) func(a, b string) (string, error) {
	return func(a, b string) (string, error) {
		if holds(compare(a, b)) {
			return "1", nil
		}
		return "0", nil
	}
}

func reckoned(of func(a, b int64) (int64, bool)) func(a, b string) (string, error) {
	return func(a, b string) (string, error) {
		x, y, err := readBoth(a, b)
		if err != nil {
			return "", err
		}
		n, ok := of(x, y)
		if !ok {
			return "", errNumber
		}
		return strconv.FormatInt(n, 10), nil
	}
}

func matched(a, b string) (string, error) {
	r, e := regex.Parse(`^\(`+b+`\)`, false, false)
	if e != api.OK {
		return "", &wrong{b, errno(e)}
	}
	_, n, _ := match.New(r).Find([]byte(a), 0)
	return strconv.Itoa(n), nil
}
