package merge_test

import (
	"math/rand"
	"slices"
	"strings"

	"toolchest/api"
)

// chance makes jobs: always the same ones.
type chance struct{ *rand.Rand }

func chanceOf(seed int64) chance { return chance{rand.New(rand.NewSource(seed))} }

func (c chance) of(texts ...string) string { return texts[c.Intn(len(texts))] }

func (c chance) some(most int, texts ...string) string {
	var s string
	for range c.Intn(most + 1) {
		s += c.of(texts...)
	}
	return s
}

const (
	mildSigns = ".i012345"
	allSigns  = mildSigns + "......esp"
)

func (c chance) faults(signs string, most int) []api.Fault {
	return faults(c.some(most, strings.Split(signs, "")...))
}

// text is lines of which many are the same, or nearly so; often they are in order.
func (c chance) text(most int) string {
	if c.Intn(6) == 0 {
		return c.some(2*most, "a", "b", ":", " ", "\t", "\n", "\n")
	}
	l := strings.SplitAfter(c.some(most, "a\n", "b\n", "a 1\n", "b 1\n", "a 2\n", " a 1\n", "a:1\n", "b:1\n", "\n", "c\t1\n", ":a\n", "ab\n", "\xff\n", "a 1 b\n", "b  2\n"), "\n")
	if c.Intn(3) > 0 {
		slices.Sort(l)
	}
	s := strings.Join(l, "")
	if c.Intn(3) == 0 {
		s = strings.TrimSuffix(s, "\n")
	}
	return s
}

// options are those of a utility; now and then such that may not be.
func (c chance) options(name string) []string {
	var l []string
	add := func(most int, groups ...string) {
		for range c.Intn(most + 1) {
			l = append(l, strings.Split(c.of(groups...), "|")...)
		}
	}
	rarely := c.Intn(15) == 0
	switch {
	case name == "uniq" && rarely:
		add(2, "-cd", "-cu", "-f|x", "-s|2147483648", "-x", "-c", "-f|", "-s|-1")
	case name == "uniq":
		add(1, "-c", "-d", "-u", "-du")
		add(2, "-f|1", "-f2", "-s|1", "-s2", "-f|0", "-s|2147483647")
	case name == "comm" && rarely:
		add(1, "-4", "-1x")
	case name == "comm":
		add(2, "-1", "-2", "-3", "-12", "-31")
	case rarely:
		add(2, "-a|3", "-v|0", "-t|", "-t|::", "-1|0", "-2|x", "-o|", "-o|0,", "-o|3.1", "-x")
	default:
		add(3, "-a|1", "-a2", "-a|2", "-v|1", "-v2", "-e|-", "-e|", "-t:", "-t:", "-t|1", "-1|2", "-2|2", "-2|3", "-1|1")
		add(1, "-o|0", "-o|0,1.2,2.2", "-o|2.1 1.1\t0", "-o1.2,2.3", "-o|1.1,1.1,2.2147483647")
	}
	return l
}

// job is one whose options and operands may be anything. Where the descriptor 0 stands twice nothing is said of comm and join.
func (c chance) job() api.Job {
	name := c.of("uniq", "comm", "join", "join")
	operand := func() string { return c.of("f", "f", "f", "e", "d/g", "h", "h", "-", c.of("k", "l", "d", "x")) }
	operands := []string{operand(), operand()}
	if name == "uniq" {
		operands = []string{c.of("-", operand()), c.of("z", "f", "e", "d")}[:c.Intn(3)]
	} else if operands[0] == "-" && operands[1] == "-" {
		operands[c.Intn(2)] = "h"
	}
	if c.Intn(40) == 0 {
		operands = strings.Fields(c.some(4, "f ", "e "))
	}
	j := jobOf(c.text(12), append(append([]string{name}, c.options(name)...), operands...)...)
	j.Nodes[3].Data = []byte(c.text(10))
	j.Nodes[4].Data = []byte(c.text(10))
	j.Lim = lim(1+c.Intn(7), 4+c.Intn(8))
	if c.Intn(6) == 0 {
		j.Lim = lim(1+c.Intn(3), 1+c.Intn(4))
	}
	return j
}
