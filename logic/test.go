package logic

import (
	"cmp"

	"toolchest/api"
	"toolchest/proc"
	"toolchest/task"
)

// tester tells whether arguments are true, by what their signs ask for.
type tester struct {
	unary  map[string]func(s string) bool
	binary map[string]func(a, b string) (bool, error)
}

func test(t *task.Task) { tellTrue(t, t.Operands) }

func bracket(t *task.Task) {
	last := len(t.Operands) - 1
	if last < 0 || t.Operands[last] != "]" {
		t.Refuse()
		return
	}
	tellTrue(t, t.Operands[:last])
}

func tellTrue(t *task.Task, args []string) {
	is, err := tester{unaries(t.Proc), binaries()}.isTrue(args)
	switch {
	case err != nil:
		complain(t, err)
	case !is:
		t.Status = statusFalse
	}
}

func (x tester) isTrue(args []string) (bool, error) {
	switch len(args) {
	case 0:
		return false, nil
	case 1:
		return args[0] != "", nil
	case 2:
		return x.ofTwo(args)
	case 3:
		return x.ofThree(args)
	case 4:
		return x.ofFour(args)
	}
	return false, errUsage
}

func (x tester) ofTwo(args []string) (bool, error) {
	if args[0] == "!" {
		return x.isFalse(args[1:])
	}
	if is, ok := x.unary[args[0]]; ok {
		return is(args[1]), nil
	}
	return false, errUsage
}

func (x tester) ofThree(args []string) (bool, error) {
	if are, ok := x.binary[args[1]]; ok {
		return are(args[0], args[2])
	}
	return x.around(args)
}

func (x tester) ofFour(args []string) (bool, error) { return x.around(args) }

// around is of three arguments or four, the first of which, or the first and the last of which, say what becomes of the others.
func (x tester) around(args []string) (bool, error) {
	last := len(args) - 1
	switch {
	case args[0] == "!":
		return x.isFalse(args[1:])
	case args[0] == "(" && args[last] == ")":
		return x.isTrue(args[1:last])
	}
	return false, errUsage
}

// isFalse is the other way round of isTrue, but for what is wrong.
func (x tester) isFalse(args []string) (bool, error) {
	is, err := x.isTrue(args)
	return err == nil && !is, err
}

// unaries are of a text, or of what a path leads to.
func unaries(p *proc.Proc) map[string]func(s string) bool {
	leadsTo := func(holds func(at api.Stat) bool) func(path string) bool {
		return func(path string) bool {
			at, e := p.Stat(path)
			return e == api.OK && holds(at)
		}
	}
	hasMode := func(bit int) func(path string) bool {
		return leadsTo(func(at api.Stat) bool { return at.Mode&bit != 0 })
	}
	return map[string]func(s string) bool{
		"-z": func(s string) bool { return s == "" },
		"-n": func(s string) bool { return s != "" },
		"-e": leadsTo(func(api.Stat) bool { return true }),
		"-d": leadsTo(func(at api.Stat) bool { return at.Dir }),
		"-f": leadsTo(func(at api.Stat) bool { return !at.Dir }),
		"-s": leadsTo(func(at api.Stat) bool { return at.Size > 0 }),
		"-r": hasMode(0o400),
		"-w": hasMode(0o200),
		"-x": hasMode(0o100),
	}
}

// binaries are of two texts, or of two numbers.
func binaries() map[string]func(a, b string) (bool, error) {
	return map[string]func(a, b string) (bool, error){
		"=":   func(a, b string) (bool, error) { return a == b, nil },
		"!=":  func(a, b string) (bool, error) { return a != b, nil },
		"-eq": ofNumbers(isSame),
		"-ne": ofNumbers(isOther),
		"-gt": ofNumbers(isAbove),
		"-ge": ofNumbers(isNotBelow),
		"-lt": ofNumbers(isBelow),
		"-le": ofNumbers(isNotAbove),
	}
}

func ofNumbers(holds func(order int) bool) func(a, b string) (bool, error) {
	return func(a, b string) (bool, error) {
		x, y, err := readBoth(a, b)
		return err == nil && holds(cmp.Compare(x, y)), err
	}
}
