package grep_test

import (
	"maps"
	"math/rand"
	"slices"
	"strings"

	"toolchest/api"
)

// chance makes jobs: always the same ones.
type chance struct {
	*rand.Rand
	patterns []string // that may be basic expressions, and such that may not be
}

func chanceOf(seed int64) chance {
	return chance{rand.New(rand.NewSource(seed)), slices.Sorted(maps.Keys(known))}
}

func (c chance) of(texts ...string) string { return texts[c.Intn(len(texts))] }

func (c chance) some(most int, texts ...string) string {
	var s string
	for range c.Intn(most + 1) {
		s += c.of(texts...)
	}
	return s
}

const (
	mildSigns = ".i012345"
	allSigns  = mildSigns + "......esp"
)

func (c chance) faults(signs string, most int) []api.Fault {
	return faults(c.some(most, strings.Split(signs, "")...))
}

// text is lines, the last one perhaps without its line feed.
func (c chance) text(most int) string {
	s := c.some(most, "a\n", "b\n", "ab\n", "aab\n", "B\n", "A b\n", "x\n", "\n", "a.b\n", "*a\n", "a|b\n", "[\n", "(a)\n", "1\n", "aa\n", "\xff\n", "\xe4\xe4\n", "\x00\n", "-a:1\n", "\\\n", "b  \n")
	if c.Intn(3) == 0 {
		s = strings.TrimSuffix(s, "\n")
	}
	return s
}

// pattern is one that mostly may be.
func (c chance) pattern() string {
	if c.Intn(12) == 0 {
		return c.of(c.patterns...)
	}
	return c.of("a", "b", "ab", "^a", "b$", "a*b", "", "x", "[ab]", "[^a]", "1", "aa", "B", "\xff", "\xe4", "^$", ":", "(a)", "a|b", ".")
}

func (c chance) listOf(most int) string {
	var l []string
	for range 1 + c.Intn(most) {
		l = append(l, c.pattern())
	}
	return strings.Join(l, "\n")
}

// options are some, now and then such that may not be, and what names patterns.
func (c chance) options() []string {
	var l []string
	for range c.Intn(4) {
		l = append(l, "-"+c.of("i", "n", "s", "v", "x", "in", "vx", "sn"))
	}
	l = append(l, strings.Fields(c.of("", "", "-E", "-E", "-F", "-F", "-En"))...)
	l = append(l, strings.Fields(c.of("", "", "", "-c", "-l", "-q", "-vc", "-ql"))...)
	if c.Intn(25) == 0 {
		l = append(l, "-"+c.of("E", "F", "c", "l", "q", "h", "w", "y"))
	}
	c.Shuffle(len(l), func(i, k int) { l[i], l[k] = l[k], l[i] })
	switch c.Intn(3) {
	case 0:
		return append(l, "--", c.listOf(2))
	case 1:
		return append(l, "-e", c.listOf(3))
	}
	for range 1 + c.Intn(3) {
		more := c.of("-e", "-e", "-f", "-f", "-nf")
		file := c.of("ab", "cut", "blank", "none", "./ab", "-", c.of("wrong", "k", "x", "d", "f"))
		if more == "-e" {
			file = c.listOf(2)
		}
		if c.Intn(4) == 0 && file != "" {
			l = append(l, more+file)
		} else {
			l = append(l, more, file)
		}
	}
	return l
}

// job is one whose options and operands may be anything.
func (c chance) job() api.Job {
	args := append([]string{"grep"}, c.options()...)
	for range c.Intn(4) {
		args = append(args, c.of("f", "f", "h", "h", "e", "-", c.of("k", "l", "d", "x")))
	}
	j := jobOf(c.text(12), args...)
	for i, n := range j.Nodes {
		switch n.Path {
		case "/f", "/h":
			j.Nodes[i].Data = []byte(c.text(10))
		case "/ab":
			j.Nodes[i].Data = []byte(c.listOf(4) + c.of("", "\n"))
		}
	}
	j.Lim = lim(1+c.Intn(7), 6+c.Intn(8))
	if c.Intn(6) == 0 {
		j.Lim = lim(1+c.Intn(3), 1+c.Intn(4))
	}
	return j
}
