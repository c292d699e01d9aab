package regex_test

import (
	"fmt"
	"strings"
	"testing"

	"toolchest/api"
	"toolchest/regex"
)

// how is by which rules a text is read.
type how struct{ ext, fold bool }

var (
	basic        = how{false, false}
	basicFold    = how{false, true}
	extended     = how{true, false}
	extendedFold = how{true, true}
	everyHow     = []how{basic, basicFold, extended, extendedFold}
)

func (h how) String() string {
	s := "basic"
	if h.ext {
		s = "extended"
	}
	if h.fold {
		s += " with fold"
	}
	return s
}

func (h how) parse(s string) (*regex.Re, api.Errno) { return regex.Parse(s, h.ext, h.fold) }

// given is the expression of a text that may be.
func (h how) given(t *testing.T, s string) *regex.Re {
	t.Helper()
	r, e := h.parse(s)
	if r == nil || e != api.OK {
		t.Fatalf("%.80q %s: %v, %d", s, h, r, e)
	}
	return r
}

// reads fails, if a text is not read as what is told so, or if its nodes or its size are others.
func (h how) reads(t *testing.T, s, want string) {
	t.Helper()
	r, e := h.parse(s)
	if r == nil || e != api.OK {
		t.Errorf("%.80q %s: %d, not %.80s", s, h, e, want)
		return
	}
	if !is(t, r, want) {
		t.Logf("of %.80q %s", s, h)
	}
}

// refuses fails, if a text is not answered an error.
func (h how) refuses(t *testing.T, s string, want api.Errno) {
	t.Helper()
	r, e := h.parse(s)
	if r != nil || e != want {
		t.Errorf("%.80q %s: %.80v, %d, not %d", s, h, r, e, want)
	}
}

// is fails, if an expression is told otherwise, or if its nodes or its size are others than what is told.
func is(t *testing.T, r *regex.Re, want string) bool {
	t.Helper()
	n := r.Node()
	s, nodes, size := r.String(), told(t, n), r.Size()
	if s != want {
		t.Errorf("%.80s (%d bytes), not %.80s (%d bytes)", s, len(s), want, len(want))
	}
	if nodes != want {
		t.Errorf("nodes %.80s (%d bytes), not %.80s (%d bytes)", nodes, len(nodes), want, len(want))
	}
	if size != sizeOf(n) {
		t.Errorf("%.80s: the size is %d, not %d", want, size, sizeOf(n))
	}
	return s == want && nodes == want && size == sizeOf(n)
}

// told is how nodes are told. It fails, if one of them is not as its kind says.
func told(t *testing.T, n *regex.Node) string {
	t.Helper()
	none, kids := [256]bool{}, []string(nil)
	for _, k := range n.Kids {
		kids = append(kids, told(t, k))
	}
	fine := n.Kind == regex.Set || n.Has == none
	fine = fine && (n.Kind == regex.Rep || n.Min == 0 && n.Max == 0)
	var s string
	switch n.Kind {
	case regex.Empty:
		s, fine = "()", fine && len(kids) == 0
	case regex.Set:
		s, fine = toldSet(n.Has), fine && len(kids) == 0
	case regex.Begin:
		s, fine = "^", fine && len(kids) == 0
	case regex.End:
		s, fine = "$", fine && len(kids) == 0
	case regex.Cat:
		s, fine = "("+strings.Join(kids, "")+")", fine && len(kids) > 1
	case regex.Alt:
		s, fine = "("+strings.Join(kids, "|")+")", fine && len(kids) > 1
	case regex.Rep:
		fine = fine && len(kids) == 1 && n.Min >= 0 && (n.Max < 0 || n.Max >= n.Min)
		if fine && n.Max < 0 {
			s = fmt.Sprintf("%s{%d,}", kids[0], n.Min)
		} else if fine {
			s = fmt.Sprintf("%s{%d,%d}", kids[0], n.Min, n.Max)
		}
	default:
		fine = false
	}
	if !fine {
		t.Errorf("a node that can't be: kind %d, Min %d, Max %d, kids %q", n.Kind, n.Min, n.Max, kids)
	}
	return s
}

// toldSet is how a set is told: its ends are those bytes beside which stands one of another kind.
func toldSet(has [256]bool) string {
	s := ""
	for c := range 256 {
		begins := has[c] && (c == 0 || !has[c-1])
		ends := has[c] && (c == 255 || !has[c+1])
		switch {
		case begins && ends:
			s += fmt.Sprintf(",%02x", c)
		case begins:
			s += fmt.Sprintf(",%02x", c)
		case ends:
			s += fmt.Sprintf("-%02x", c)
		}
	}
	return "<" + strings.TrimPrefix(s, ",") + ">"
}

// setOf is how a set of these bytes is told.
func setOf(l string) string {
	var has [256]bool
	for i := range len(l) {
		has[l[i]] = true
	}
	return toldSet(has)
}

// otherThan is how a set of all other bytes is told.
func otherThan(l string) string {
	var has [256]bool
	for c := range has {
		has[c] = strings.IndexByte(l, byte(c)) < 0
	}
	return toldSet(has)
}

// oneOf is a text of one byte.
func oneOf(c int) string { return string([]byte{byte(c)}) }

// sizeOf is the size of nodes, as long as it is no more than an int.
func sizeOf(n *regex.Node) int {
	size := 0
	for _, k := range n.Kids {
		size += sizeOf(k)
	}
	if n.Kind == regex.Rep {
		size *= max(1, n.Min, n.Max)
	}
	return 1 + size
}

// both are a letter as the small and the great one, of other bytes that byte.
func both(c string) string {
	if strings.Contains(letters, c) {
		return strings.ToLower(c) + strings.ToUpper(c)
	}
	return c
}

const (
	upper   = "ABCDEFGHIJKLMNOPQRSTUVWXYZ"
	lower   = "abcdefghijklmnopqrstuvwxyz"
	letters = upper + lower
	digits  = "0123456789"
	anyByte = "<00-ff>"
)

// everyText are all texts of up to so many signs.
func everyText(most int, signs ...string) []string {
	all := []string{""}
	for begin := 0; most > 0; most-- {
		end := len(all)
		for _, s := range all[begin:end] {
			for _, sign := range signs {
				all = append(all, s+sign)
			}
		}
		begin = end
	}
	return all
}
