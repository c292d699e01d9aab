package regex

import "strings"

// bracket is the set of a bracket, of which `[` was read.
func (r *reader) bracket() [256]bool {
	var has [256]bool
	isTurned := r.skip("^")
	// The first part is read whatever it is, so that `]` may be it.
	for first := true; first || !r.skip("]"); first = false {
		r.part(&has)
	}
	if r.fold {
		has = folded(has)
	}
	if isTurned {
		has = turned(has)
	}
	return has
}

// part puts the bytes of a bracket's next part into its set.
func (r *reader) part(has *[256]bool) {
	if isOne := r.class(); isOne != nil {
		for c := range has {
			has[c] = has[c] || isOne(byte(c))
		}
		return
	}
	if c, ok := r.between("[=", "=]"); ok {
		has[c] = true
		return
	}
	first := r.rangeEnd()
	last := first
	if r.isAtRange() {
		r.take()
		last = r.rangeEnd()
	}
	if last < first {
		giveUp()
	}
	for c := int(first); c <= int(last); c++ {
		has[c] = true
	}
}

// class tells of bytes whether they are of the class that is next; nil, if there is none.
func (r *reader) class() func(c byte) bool {
	inner, ok := strings.CutPrefix(r.left, "[:")
	if !ok || r.classless {
		return nil
	}
	word, behind, ok := strings.Cut(inner, ":]")
	if !ok {
		// What is left need not be gone through once more for each other `[:`.
		r.classless = true
		return nil
	}
	isOne, ok := classes()[word]
	if !ok {
		giveUp()
	}
	r.left = behind
	return isOne
}

// between is a byte that stands between two signs; false: they are not next.
func (r *reader) between(before, after string) (byte, bool) {
	inner, ok := strings.CutPrefix(r.left, before)
	if !ok || inner == "" {
		return 0, false
	}
	behind, ok := strings.CutPrefix(inner[1:], after)
	if !ok {
		return 0, false
	}
	r.left = behind
	return inner[0], true
}

// rangeEnd is a byte that may be an end of a range.
func (r *reader) rangeEnd() byte {
	if c, ok := r.between("[.", ".]"); ok {
		return c
	}
	return r.take()
}

// isAtRange says that a `-` is next that makes a range of what stands around it.
func (r *reader) isAtRange() bool {
	return strings.HasPrefix(r.left, "-") && !strings.HasPrefix(r.left, "-]")
}

// only is a set of one byte, of a letter perhaps as the small and the great one.
func only(c byte, fold bool) [256]bool {
	var has [256]bool
	has[c] = true
	if fold {
		return folded(has)
	}
	return has
}

// folded has of each letter that a set has both the small and the great one.
func folded(has [256]bool) [256]bool {
	for great := byte('A'); great <= 'Z'; great++ {
		small := great - 'A' + 'a'
		either := has[great] || has[small]
		has[great], has[small] = either, either
	}
	return has
}

// turned has all bytes that a set does not have.
func turned(has [256]bool) [256]bool {
	for c := range has {
		has[c] = !has[c]
	}
	return has
}
