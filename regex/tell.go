package regex

import (
	"slices"
	"strconv"
	"strings"
)

// item is of what is told: a text, or a node.
type item struct {
	text string
	node *Node
}

func (r *Re) String() string {
	var b strings.Builder
	// What is to be told yet, the next one last, is listed and not called for, since nodes may stand very deep within one another.
	left := []item{{"", r.root}}
	for len(left) > 0 {
		next := left[len(left)-1]
		left = left[:len(left)-1]
		b.WriteString(next.text)
		if next.node == nil {
			continue
		}
		items := next.node.items()
		slices.Reverse(items)
		left = append(left, items...)
	}
	return b.String()
}

// items are how a node is told, one behind the other.
func (n *Node) items() []item {
	switch n.Kind {
	case Set:
		return []item{{"<" + ranges(n.Has) + ">", nil}}
	case Begin:
		return []item{{"^", nil}}
	case End:
		return []item{{"$", nil}}
	case Cat:
		return inParentheses(n.Kids, "")
	case Alt:
		return inParentheses(n.Kids, "|")
	case Rep:
		return []item{{"", n.Kids[0]}, {times(n.Min, n.Max), nil}}
	}
	return []item{{"()", nil}}
}

// inParentheses is nodes with a text between them.
func inParentheses(l []*Node, text string) []item {
	items := []item{{"(", nil}}
	for i, n := range l {
		if i > 0 {
			items = append(items, item{text, nil})
		}
		items = append(items, item{"", n})
	}
	return append(items, item{")", nil})
}

func times(least, most int) string {
	s := "{" + strconv.Itoa(least) + ","
	if most >= 0 {
		s += strconv.Itoa(most)
	}
	return s + "}"
}

// ranges are the bytes of a set, as the longest ones.
func ranges(has [256]bool) string {
	var l []string
	for c := 0; c < len(has); c++ {
		if !has[c] {
			continue
		}
		first := c
		for c+1 < len(has) && has[c+1] {
			c++
		}
		s := twoDigits(first)
		if c > first {
			s += "-" + twoDigits(c)
		}
		l = append(l, s)
	}
	return strings.Join(l, ",")
}

func twoDigits(c int) string {
	const digits = "0123456789abcdef"
	return string([]byte{digits[c>>4], digits[c&15]})
}
