package cols

import (
	"cmp"
	"slices"
	"strings"

	"toolchest/api"
	"toolchest/text"
)

// Span is from one place up to another one, which is among them.
type Span struct{ From, To int }

// List reads a list of places.
func List(s string) ([]Span, bool) {
	var l []Span
	parts := strings.NewReplacer(" ", ",", "\t", ",").Replace(s)
	for part := range strings.SplitSeq(parts, ",") {
		span, ok := spanOf(part)
		if !ok {
			return nil, false
		}
		l = append(l, span)
	}
	return l, true
}

// spanOf reads a part of a list; false: it may not be. One end may be left out, so of `-` alone the other one is missed.
func spanOf(part string) (Span, bool) {
	from, to, isSpan := strings.Cut(part, "-")
	switch {
	case !isSpan:
		to = from
	case from == "":
		from = "1"
	case to == "":
		to = text.Digits(api.MaxNum, 10)
	}
	first, ok := placeOf(from)
	last, okToo := placeOf(to)
	return Span{first, last}, ok && okToo && first <= last
}

func placeOf(s string) (int, bool) {
	n, ok := text.Number(s, api.MaxNum)
	return n, ok && n > 0
}

// places tells whether a place is asked for.
type places func(n int) bool

// placesOf are those that lie in a span. Spans that overlap are laid together first, so that of a long list few spans are looked at for each place.
func placesOf(l []Span) places {
	l = apart(l)
	return func(n int) bool {
		i, _ := slices.BinarySearchFunc(l, n, func(s Span, n int) int { return cmp.Compare(s.To, n) })
		return i < len(l) && l[i].From <= n
	}
}

// apart are spans of the same places, in order, of which no two overlap.
func apart(l []Span) []Span {
	var out []Span
	byFrom := func(a, b Span) int { return cmp.Compare(a.From, b.From) }
	for _, s := range slices.SortedFunc(slices.Values(l), byFrom) {
		last := len(out) - 1
		if last >= 0 && s.From <= out[last].To {
			out[last].To = max(out[last].To, s.To)
		} else {
			out = append(out, s)
		}
	}
	return out
}
