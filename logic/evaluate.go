package logic

// evaluator goes through an expression once. What waits stands in lists, so that parentheses may be as deep as they like.
type evaluator struct {
	signs         map[string]operator
	isBehindValue bool // else an operand has to come
	values        []string
	waiting       []operator // for the value on their right side, and parentheses for their end
	err           error      // the first thing that went wrong
}

// evaluate is the value of an expression. That it is none is told ahead of all that goes wrong in it.
func evaluate(args []string) (string, error) {
	x := evaluator{signs: operators()}
	for _, arg := range args {
		take := x.takeOperand
		if x.isBehindValue {
			take = x.takeSign
		}
		if !take(arg) {
			return "", errUsage
		}
	}
	if !x.isBehindValue {
		return "", errUsage
	}
	x.reckonFrom(ofEither)
	if len(x.waiting) > 0 {
		return "", errUsage
	}
	return x.values[0], x.err
}

// takeOperand takes what stands where an operand does; false: it can't stand there.
func (x *evaluator) takeOperand(arg string) bool {
	switch arg {
	case "(":
		x.waiting = append(x.waiting, operator{strength: ofParenthesis})
	case ")":
		return false
	default:
		x.values = append(x.values, arg)
		x.isBehindValue = true
	}
	return true
}

// takeSign takes what stands behind a value; false: it can't stand there.
func (x *evaluator) takeSign(arg string) bool {
	if arg == ")" {
		return x.endParenthesis()
	}
	sign, ok := x.signs[arg]
	if !ok {
		return false
	}
	x.reckonFrom(sign.strength)
	x.waiting = append(x.waiting, sign)
	x.isBehindValue = false
	return true
}

// endParenthesis lets one that waits for its end wait no more; false: none waits.
func (x *evaluator) endParenthesis() bool {
	x.reckonFrom(ofEither)
	last := len(x.waiting) - 1
	if last < 0 {
		return false
	}
	x.waiting = x.waiting[:last]
	return true
}

// reckonFrom lets the last ones that wait, as long as they are so strong, make of their two values one.
func (x *evaluator) reckonFrom(strength int) {
	for last := len(x.waiting) - 1; last >= 0 && x.waiting[last].strength >= strength; last-- {
		x.reckon(x.waiting[last])
		x.waiting = x.waiting[:last]
	}
}

// reckon makes of the last two values one; behind what went wrong nothing is reckoned any more.
func (x *evaluator) reckon(by operator) {
	last := len(x.values) - 1
	b := x.values[last]
	x.values = x.values[:last]
	if x.err == nil {
		x.values[last-1], x.err = by.reckon(x.values[last-1], b)
	}
}
