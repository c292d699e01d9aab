package logic_test

import (
	"reflect"
	"strings"
	"testing"

	"toolchest/api"
)

func TestAgainstAModel(t *testing.T) {
	c := chanceOf(3)
	statuses, words := map[string]int{}, map[string]int{}
	for range 15000 {
		j := jobOf(c.args()...)
		for range 2 {
			r := follows(t, j)
			statuses[j.Args[0]+" "+string(rune('0'+r.Status))]++
			for _, word := range []string{usage, noNumber, noRegex, tooMany} {
				if strings.Contains(string(r.Err), word) {
					words[word]++
				}
			}
			j.Faults = c.faults(allSigns, 10)
		}
	}
	for what, least := range map[string]int{"expr 0": 4500, "expr 1": 1200, "expr 2": 3000, "expr 3": 700, "test 0": 2000, "test 1": 2500, "test 2": 500, "[ 0": 2000, "[ 1": 2500, "[ 2": 500} {
		if statuses[what] < least {
			t.Errorf("%s: %d times", what, statuses[what])
		}
	}
	for what, least := range map[string]int{usage: 1200, noNumber: 2000, noRegex: 150, tooMany: 5} {
		if words[what] < least {
			t.Errorf("%s: %d times", what, words[what])
		}
	}
}

// R1: whatever it is given, it ends by itself.
func TestAnyArguments(t *testing.T) {
	c := chanceOf(4)
	signs := append([]string{"(", ")", "(", ")", "!", "]", "-z", "-n", "-e", "-s", "=", "!=", "-eq", "-gt", "--", "-"}, exprSigns...)
	pieces := []string{"-", "+", "0", "1", "9", "a", "*", ".", `\`, `\(`, `\)`, "^", "$", "\x00", "\xff", "ä", "\n", " ", "/", "d", "99999999999999999999"}
	for range 15000 {
		args := []string{c.of("test", "[", "expr", "expr")}
		for range c.Intn(8) {
			if c.Intn(2) == 0 {
				args = append(args, c.of(signs...))
			} else {
				args = append(args, c.some(4, pieces...))
			}
		}
		j := jobOf(args...)
		j.Faults = c.faults(allSigns, 5)
		follows(t, j)
	}
}

// everyList are all lists of up to so many of these arguments.
func everyList(most int, args ...string) [][]string {
	lists := [][]string{nil}
	for at, n := 0, 0; n < most; n++ {
		for end := len(lists); at < end; at++ {
			for _, arg := range args {
				lists = append(lists, append(append([]string(nil), lists[at]...), arg))
			}
		}
	}
	return lists
}

// everyText are all texts of up to so many signs.
func everyText(most int, signs ...string) []string {
	var texts []string
	for _, l := range everyList(most, signs...) {
		texts = append(texts, strings.Join(l, ""))
	}
	return texts
}

// bare is a job whose tree has a file alone.
func bare(name string, args ...string) api.Job {
	j := jobOf(append([]string{name}, args...)...)
	j.Nodes = []api.Node{file("/a", "q", 0o400)}
	return j
}

// Each sign at each place among arguments.
func TestEveryFewArgumentsOfTest(t *testing.T) {
	for _, l := range append(everyList(4, "!", "(", ")", "-z", "-s", "=", "-eq", "", "a", "7"), everyList(6, "!", "(", ")", "a")...) {
		follows(t, bare("test", l...))
	}
	for _, l := range everyList(5, "!", "(", ")", "=", "]", "") {
		follows(t, bare("[", l...))
		follows(t, bare("[", append(l[:len(l):len(l)], "]")...))
	}
}

func TestEveryFewArgumentsOfExpr(t *testing.T) {
	for _, l := range append(everyList(5, "(", ")", "|", "+", "2", "0", "a"), everyList(7, "(", ")", "*", "3")...) {
		follows(t, bare("expr", l...))
	}
	// Values with each two signs between them, and parentheses around each two.
	for _, one := range exprSigns {
		for _, two := range exprSigns {
			for _, v := range everyList(3, "0", "2", "-3", "", "a", "*") {
				if len(v) < 3 {
					continue
				}
				follows(t, bare("expr", v[0], one, v[1], two, v[2]))
			}
			for _, v := range everyList(3, "7", "2", "x") {
				if len(v) < 3 {
					continue
				}
				follows(t, bare("expr", "(", v[0], one, v[1], ")", two, v[2]))
				follows(t, bare("expr", v[0], one, "(", v[1], two, v[2], ")"))
			}
		}
	}
}

// Every few bytes as a number: of test, and of expr.
func TestEveryShortNumber(t *testing.T) {
	for _, s := range everyText(4, "-", "+", "0", "1", "9", " ", "a") {
		follows(t, bare("test", s, "-eq", "0"))
		follows(t, bare("test", "1", "-gt", s))
		follows(t, bare("expr", s, "+", "1"))
		follows(t, bare("expr", s, "|", s))
	}
}

// Every few pieces as an expression that stands in a text.
func TestEveryShortExpression(t *testing.T) {
	for _, s := range everyText(4, "a", "*", `\(`, `\)`, "^", "$", ".", `\`) {
		for _, of := range []string{"", "aa", "*a", "(a^$"} {
			follows(t, bare("expr", of, ":", s))
		}
	}
}

// Mild faults change nothing but how many steps it takes.
func TestMildFaults(t *testing.T) {
	c := chanceOf(5)
	for range 5000 {
		j := jobOf(c.args()...)
		want := run(t, j)
		j.Faults = c.faults(mildSigns, 40)
		r := comes(t, j, string(want.Out), string(want.Err), want.Status)
		if r.Steps > want.Steps+r.Used {
			t.Errorf("%q, faults %q: %d steps, %d without faults", j.Args, signsOf(j.Faults), r.Steps, want.Steps)
		}
	}
}

// A job that is stepped comes to what it comes to when it is run (R5: whoever goes through it, and how often).
func TestSteppedJobs(t *testing.T) {
	c := chanceOf(6)
	for range 5000 {
		j := jobOf(c.args()...)
		j.Faults = c.faults(allSigns, 20)
		want := run(t, j)
		if got := newRig(t, j).result(); !areSame(got, want) {
			t.Errorf("%q, faults %q: %v, not %v", j.Args, signsOf(j.Faults), got, want)
		}
		if again := run(t, j); !reflect.DeepEqual(again, want) {
			t.Errorf("%q, faults %q: %v, not %v", j.Args, signsOf(j.Faults), again, want)
		}
	}
}

// areSame holds results against each other: nil and empty are the same.
func areSame(a, b api.Result) bool {
	if string(a.Out) != string(b.Out) || string(a.Err) != string(b.Err) {
		return false
	}
	a.Out, a.Err, b.Out, b.Err = nil, nil, nil, nil
	return reflect.DeepEqual(a, b)
}
