package sed_test

import (
	"maps"
	"math/rand"
	"slices"
	"strconv"
	"strings"

	"toolchest/api"
)

// chance makes jobs: always the same ones.
type chance struct {
	*rand.Rand
	expressions []string
	labels      []string // that the script that is made has, or is to have
}

func chanceOf(seed int64) *chance {
	return &chance{Rand: rand.New(rand.NewSource(seed)), expressions: slices.Sorted(maps.Keys(known))}
}

func (c *chance) of(texts ...string) string { return texts[c.Intn(len(texts))] }

func (c *chance) some(most int, texts ...string) string {
	var s string
	for range c.Intn(most + 1) {
		s += c.of(texts...)
	}
	return s
}

const (
	mildSigns = ".i012345"
	allSigns  = mildSigns + "......esp"
)

func (c *chance) faults(signs string, most int) []api.Fault {
	return faults(c.some(most, strings.Split(signs, "")...))
}

// text is lines, the last one perhaps without its line feed.
func (c *chance) text(most int) string {
	s := c.some(most, "a\n", "b\n", "ab\n", "aab\n", "B\n", "A b\n", "x\n", "\n", "a.b\n", "*a\n", "abab\n", "1\n", "aa\n", "\xff\n", "\xe4\xe4\n", "\x00\n", "a/b\n", "12\n", "\\n\n", "b  \n")
	if c.Intn(3) == 0 {
		s = strings.TrimSuffix(s, "\n")
	}
	return s
}

// delimited is an expression as it stands ahead of a byte that ends it.
func (c *chance) delimited(end string) string {
	var s string
	switch c.Intn(5) {
	case 0:
		s = c.of(c.expressions...)
	case 1:
	default:
		s = c.of("a", "b", "ab", "x", "1", "aa", "B", "\xff", "\xe4", "^a", "b$", ".", "a*", "\n")
	}
	if strings.Contains(s, `\`+end) {
		return ""
	}
	s = strings.ReplaceAll(s, "\n", `\n`)
	if end != "n" {
		s = strings.ReplaceAll(s, end, `\`+end)
	}
	return s
}

func (c *chance) address() string {
	switch c.Intn(6) {
	case 0, 1:
		return strconv.Itoa(1 + c.Intn(6))
	case 2:
		return "$"
	case 3:
		end := c.of(",", "|", "x", "n", ";")
		return `\` + end + c.delimited(end) + end
	}
	return "/" + c.delimited("/") + "/"
}

// addresses are at most so many, with what stands behind them.
func (c *chance) addresses(most int) string {
	s := ""
	switch n := c.Intn(4); {
	case most == 0:
		return ""
	case n == 1 || n == 2 && most == 1:
		s = c.address()
	case n == 2:
		s = c.address() + "," + c.of("", "", " ", "\t") + c.address()
	}
	return s + c.of("", "", "", " ") + c.of("", "", "", "", "!", "!!", "! ", "! !")
}

// label is one that the script has, or is to have.
func (c *chance) label() string {
	s := c.of("", "x", "y", "a b", "}")
	if s != "" && !slices.Contains(c.labels, s) {
		c.labels = append(c.labels, s)
	}
	return s
}

func (c *chance) substitution() string {
	end := c.of("/", "/", "/", ",", "|", "&", "n", "1", " ")
	put := c.some(4, "a", "b", "[", "]", `\n`, `\&`, "&", "\\\n", `\\`, `\`+end, "x", "\xff")
	if end != "&" && end != "n" && end != "1" {
		put += c.of("", "", "1", "n")
	}
	return "s" + end + c.delimited(end) + end + put + end + c.of("", "", "g", "p", "2", "3g", "gp", "p2g", "1")
}

// command is one with what may stand behind it.
func (c *chance) command(depth int) string {
	ends := c.of(";", ";", "\n", " ; ", "\n\n")
	switch n := c.Intn(12); {
	case n == 0 && depth < 3:
		return c.addresses(2) + "{" + c.of("", " ", "\n", ";") + c.commands(4, depth+1) + "}" + c.of("", " ", "\t") + ends
	case n == 1:
		return c.addresses(1) + c.of("a", "i") + c.of("", " ") + "\\\n" + c.some(3, "t", " ", `\\`, "\\\n", `\t`, ";", "}") + "\n"
	case n == 2:
		return c.addresses(2) + "c\\\n" + c.some(3, "c", " ", "\\\n") + "\n"
	case n == 3:
		return c.addresses(2) + c.of("b", "t") + c.of("", " ") + c.label() + c.of("", " ") + c.of(";", "\n")
	case n == 4:
		return c.addresses(2) + c.of("y/ab/ba/", "y,a\\,b,\\,ab,", `y/\n/;/`, `y/aB\\/\nbb/`, "y///", "y1ab1cd1", "ynanbn") + ends
	case n < 8:
		return c.addresses(2) + c.substitution() + c.of("", "", " ") + ends
	case n == 8:
		return c.addresses(1) + c.of("=", "=", "q") + ends
	case n == 9 && c.Intn(3) == 0:
		return "#" + c.some(3, "n", "{", ";") + "\n"
	}
	return c.addresses(2) + c.of("d", "D", "g", "G", "h", "H", "n", "N", "p", "P", "x") + c.of("", "", " ") + ends
}

func (c *chance) commands(most, depth int) string {
	var s string
	for range c.Intn(most + 1) {
		s += c.of("", "", "", " ", ";", "\n") + c.command(depth)
	}
	return s
}

// script is one that mostly may be.
func (c *chance) script() string {
	c.labels = nil
	s := c.commands(6, 0)
	for i, name := range c.labels {
		if i > 0 || c.Intn(2) == 0 {
			s += ":" + c.of("", " ") + name + c.of(";", "\n") + c.commands(2, 1)
		} else {
			s = ": " + name + "\n" + s
		}
	}
	switch c.Intn(30) {
	case 0:
		s = c.of("#n\n", "#n", "#nn\n", "# n\n") + s
	case 1:
		s += c.of("}", "{", "z", "1", "1,", "!", "s/a", "s/a/b", "s/a/b/q", "y/a/bc/", "y/aa/bc/", "a", "/[/p", "/[", "bz", ":", "0p", "1=p", "1,2=", "p p", "/\\(/p", "s/a/\\1/", "s/\\(a\\{255\\}\\)\\{40\\}//")
	case 2:
		at := c.Intn(len(s) + 1)
		s = s[:at] + c.of("", ";", "}", "{", "/", "\\", "\n", "1", ",", "!", "g") + s[min(len(s), at+c.Intn(2)):]
	}
	if c.Intn(3) == 0 {
		s = strings.TrimRight(s, ";\n ")
	}
	return s
}

// options are some, and what is a script.
func (c *chance) options() []string {
	l := strings.Fields(c.of("", "", "-n", "-n", "-nn", "-n -n"))
	if c.Intn(40) == 0 {
		l = append(l, "-"+c.of("E", "r", "s", "i", "z", "l", "u"))
	}
	switch c.Intn(4) {
	case 0, 1:
		return append(l, "--", c.script())
	case 2:
		return append(l, "-e", c.script())
	}
	for range 1 + c.Intn(3) {
		more := c.of("-e", "-e", "-f", "-f", "-nf")
		text := c.of("made", "made", "cut", "blank", "none", "./double", "-", c.of("wrong", "k", "x", "d", "text"))
		if more == "-e" {
			text = c.script()
		}
		if c.Intn(4) == 0 && text != "" {
			l = append(l, more+text)
		} else {
			l = append(l, more, text)
		}
	}
	return l
}

// job is one whose options and operands may be anything.
func (c *chance) job() api.Job {
	args := append([]string{"sed"}, c.options()...)
	for range c.Intn(4) {
		args = append(args, c.of("f", "f", "h", "h", "e", "-", c.of("k", "l", "d", "x")))
	}
	j := jobOf(c.text(12), args...)
	for i, n := range j.Nodes {
		switch n.Path {
		case "/f", "/h":
			j.Nodes[i].Data = []byte(c.text(6))
		}
	}
	j.Nodes = append(j.Nodes, file("/made", c.script()+c.of("", "\n")))
	j.Lim = lim(1+c.Intn(7), 60)
	if c.Intn(6) == 0 {
		j.Lim = lim(1+c.Intn(3), 1+c.Intn(6))
	}
	return j
}
