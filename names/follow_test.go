package names_test

import (
	"reflect"
	"strings"
	"testing"

	"toolchest/api"
)

func TestAgainstAModel(t *testing.T) {
	c := chanceOf(3)
	statuses, told, wrong, refused := map[int]int{}, 0, 0, 0
	for range 20000 {
		j := job(c.args()...)
		for range 2 {
			r := follows(t, j)
			statuses[r.Status]++
			if len(r.Out) > 1 {
				told++
			}
			if strings.Contains(string(r.Err), "not a number") {
				wrong++
			}
			if strings.Contains(string(r.Err), "usage") {
				refused++
			}
			j.Faults = c.faults(allSigns, 10)
		}
	}
	if min(statuses[0], statuses[1]) < 8000 || told < 12000 || min(wrong, refused) < 3000 {
		t.Errorf("the statuses %v, %d have told something, %d of no numbers, %d of usage", statuses, told, wrong, refused)
	}
}

// R1: whatever it is given, it ends by itself.
func TestAnyArguments(t *testing.T) {
	c := chanceOf(4)
	pieces := []string{"%", "%", "\\", "-", "+", " ", "0", "#", "1", "9", ".", "s", "c", "b", "d", "u", "o", "x", "X", "i", "/", "'", "\n", "\x00", "\xff", "ä", "7", "c", "1000"}
	for range 20000 {
		args := []string{c.of("echo", "basename", "dirname", "printf", "printf", "printf", "printf", "true", "false")}
		for range c.Intn(4) {
			args = append(args, c.some(8, pieces...))
		}
		j := job(args...)
		j.Faults = c.faults(allSigns, 5)
		follows(t, j)
	}
}

// Every few bytes as a FORMAT.
func TestEveryShortFormat(t *testing.T) {
	for _, s := range everyText(5, "%", "-", "0", ".", "1", "d", "s", `\`) {
		if strings.HasPrefix(s, "-") {
			continue
		}
		follows(t, job("printf", s, "7", "-"))
	}
	for _, s := range everyText(4, "%", "+", " ", "#", "0", "2", ".", "x", "o", "b", "c") {
		follows(t, job("printf", "--", s, "10", `\1`, ""))
	}
	for _, s := range everyText(5, `\`, "0", "1", "7", "8", "n", "c") {
		follows(t, job("printf", "--", s+"|%b|", s, s))
	}
}

// Every few bytes as a number, all in one job.
func TestEveryShortNumber(t *testing.T) {
	texts := append(everyText(3, "-", "+", "0", "1", "8", "x", "X", "f", "'", " "), everyText(5, "-", "0", "x", "f")...)
	for _, letter := range []string{"d", "u", "#o", "#x"} {
		args := append([]string{"printf", `%` + letter + `\n`}, texts...)
		if r := follows(t, job(args...)); len(r.Err) < 20000 {
			t.Errorf("%s: in %d bytes is said what is no number", letter, len(r.Err))
		}
	}
}

// All flags, with widths, precisions and letters.
func TestEveryConversion(t *testing.T) {
	numbers := []string{"-9223372036854775808", "-255", "-1", "0", "1", "8", "0xbeef", "9223372036854775807", "", "q"}
	texts := []string{"", "a", "bcd", `\0101\n`, "long enough to be cut"}
	for bits := range 32 {
		flags := ""
		for i, flag := range []string{"-", "+", " ", "0", "#"} {
			if bits>>i&1 == 1 {
				flags += flag
			}
		}
		for _, width := range []string{"", "1", "2", "4", "9", "30"} {
			for _, precision := range []string{"", ".", ".0", ".1", ".2", ".5", ".25"} {
				spec := "%" + flags + width + precision
				for letters, args := range map[string][]string{"diuoxX": numbers, "scb": texts} {
					format, l := "", []string(nil)
					for _, letter := range strings.Split(letters, "") {
						format += spec + letter + "|"
					}
					for _, arg := range args {
						for range letters {
							l = append(l, arg)
						}
					}
					follows(t, job(append([]string{"printf", format}, l...)...))
				}
			}
		}
	}
}

// Mild faults change nothing but how many steps it takes.
func TestMildFaults(t *testing.T) {
	c := chanceOf(5)
	for range 5000 {
		j := job(c.args()...)
		want := run(t, j)
		j.Faults = c.faults(mildSigns, 40)
		r := comes(t, j, string(want.Out), string(want.Err), want.Status)
		if r.Steps > want.Steps+r.Used {
			t.Errorf("%q, faults %q: %d steps, %d without faults", j.Args, signsOf(j.Faults), r.Steps, want.Steps)
		}
	}
}

// A job that is stepped comes to what it comes to when it is run (R5: whoever goes through it, and how often).
func TestSteppedJobs(t *testing.T) {
	c := chanceOf(6)
	for range 5000 {
		j := job(c.args()...)
		j.Faults = c.faults(allSigns, 20)
		want := run(t, j)
		if got := newRig(t, j).result(); !areSame(got, want) {
			t.Errorf("%q, faults %q: %v, not %v", j.Args, signsOf(j.Faults), got, want)
		}
		if again := run(t, j); !reflect.DeepEqual(again, want) {
			t.Errorf("%q, faults %q: %v, not %v", j.Args, signsOf(j.Faults), again, want)
		}
	}
}

// areSame holds results against each other: nil and empty are the same.
func areSame(a, b api.Result) bool {
	if string(a.Out) != string(b.Out) || string(a.Err) != string(b.Err) {
		return false
	}
	a.Out, a.Err, b.Out, b.Err = nil, nil, nil, nil
	return reflect.DeepEqual(a, b)
}
