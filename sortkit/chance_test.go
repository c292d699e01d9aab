package sortkit_test

import (
	"math/rand"
	"strings"

	"toolchest/api"
)

// chance makes jobs: always the same ones.
type chance struct{ *rand.Rand }

func chanceOf(seed int64) chance { return chance{rand.New(rand.NewSource(seed))} }

func (c chance) of(texts ...string) string { return texts[c.Intn(len(texts))] }

func (c chance) some(most int, texts ...string) string {
	var s string
	for range c.Intn(most + 1) {
		s += c.of(texts...)
	}
	return s
}

// text is lines of which many are the same, or nearly so.
func (c chance) text(most int) string {
	switch c.Intn(3) {
	case 0:
		return c.some(most, "a", "b", "A", " ", "\n", "\n")
	case 1:
		return c.some(most, "1", "2", "0", "-", ":", "\n", "\n")
	}
	return c.some(most, "a\n", "b\n", "B\n", "\n", "ab\n", "a b\n", "1 a\n", "01 b\n", "-1\n", "a")
}

const (
	mildSigns = ".i012345"
	allSigns  = mildSigns + "............................esp"
)

func (c chance) faults(signs string, most int) []api.Fault {
	return faults(c.some(most, strings.Split(signs, "")...))
}

// order is options of one that may be, perhaps with -u.
func (c chance) order() []string {
	return strings.Fields(c.some(3, "-u ", "-f ", "-n ", "-r ", "-b ", "-d ", "-i ", "-k2 ", "-k 2n ", "-k 1.2,1 ", "-t : ", "-t1 ", "-k 1fr,1 ", "-fu "))
}

func (c chance) limits() api.Limits {
	line := 5 + c.Intn(6)
	if c.Intn(8) == 0 {
		line = 1 + c.Intn(3)
	}
	return lim(1+c.Intn(6), line, line+c.Intn(c.Intn(60)+1))
}

// job is one whose options and operands may be anything.
func (c chance) job() api.Job {
	args := append([]string{"sort"}, c.order()...)
	switch c.Intn(10) {
	case 0, 1:
		args = append(args, strings.Fields(c.of("-o z", "-o f", "-oe", "-o d", "-o z -o f"))...)
	case 2:
		args = append(args, c.of("-c", "-C", "-cC"))
	case 3:
		args = append(args, strings.Fields(c.of("-m", "-x", "-k 0", "-cm", "-c -o f", "-t ab"))...)
	}
	args = append(args, strings.Fields(c.some(3, "f ", "e ", "d/g ", "- ", "- ", "f ", "h ", "- ", "f ", "h ", c.of("k ", "x ", "d ")))...)
	j := jobOf(c.text(60), args...)
	j.Nodes[3].Data = []byte(c.text(40))
	j.Lim = c.limits()
	return j
}
