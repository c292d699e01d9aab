package regex

import "math"

// leaf is a node of a kind that has no kids.
func leaf(kind int) Re { return Re{&Node{Kind: kind}, 1} }

func ofSet(has [256]bool) Re { return Re{&Node{Kind: Set, Has: has}, 1} }

// cat is pieces one behind the other.
func cat(l []Re) Re {
	if len(l) == 0 {
		return leaf(Empty)
	}
	return join(Cat, l)
}

// alt is one of several branches. Where there are none, nothing can stand: so does a set without bytes.
func alt(l []Re) Re {
	if len(l) == 0 {
		return leaf(Set)
	}
	return join(Alt, l)
}

// join makes one node of several; one alone is itself.
func join(kind int, l []Re) Re {
	if len(l) == 1 {
		return l[0]
	}
	kids, size := make([]*Node, len(l)), 1
	for i, r := range l {
		kids[i] = r.root
		size = sum(size, r.size)
	}
	return Re{&Node{Kind: kind, Kids: kids}, size}
}

func repeat(r Re, least, most int) Re {
	n := &Node{Kind: Rep, Min: least, Max: most, Kids: []*Node{r.root}}
	return Re{n, sum(1, product(r.size, max(1, least, most)))}
}

// Repetitions within one another come soon to sizes that are no int: these are as great as one can be.

func sum(a, b int) int {
	if a > math.MaxInt-b {
		return math.MaxInt
	}
	return a + b
}

func product(a, b int) int {
	if a > math.MaxInt/b {
		return math.MaxInt
	}
	return a * b
}

// builder makes nodes of what a text is read as. When there are too many of them, it makes no more, however long the text is yet.
type builder struct {
	parts []Re   // that are not part of another one yet
	open  []span // expressions that have not ended yet, each within the one ahead of it
	made  int    // leaves and repetitions; the size is that at least
}

// span is where among the parts an expression's branches begin, and the pieces of its last one.
type span struct{ branches, pieces int }

func (b *builder) isFull() bool { return b.made > maxSize }

// begin begins an expression.
func (b *builder) begin() {
	if !b.isFull() {
		b.open = append(b.open, span{len(b.parts), len(b.parts)})
	}
}

// piece is one more of the last branch.
func (b *builder) piece(r Re) {
	if !b.isFull() {
		b.made++
		b.parts = append(b.parts, r)
	}
}

// repeat repeats the last piece.
func (b *builder) repeat(least, most int) {
	if !b.isFull() {
		b.made++
		last := &b.parts[len(b.parts)-1]
		*last = repeat(*last, least, most)
	}
}

// endBranch makes one part of the last branch's pieces.
func (b *builder) endBranch() {
	if b.isFull() {
		return
	}
	s := &b.open[len(b.open)-1]
	if len(b.parts) == s.pieces {
		b.piece(leaf(Empty))
	}
	b.parts = append(b.parts[:s.pieces], cat(b.parts[s.pieces:]))
	s.pieces++
}

// end makes one part of an expression's branches, which have all ended: a piece of the expression in which it stands.
func (b *builder) end() {
	if b.isFull() {
		return
	}
	last := len(b.open) - 1
	first := b.open[last].branches
	b.parts = append(b.parts[:first], alt(b.parts[first:]))
	b.open = b.open[:last]
}

// whole is what came of the text; false: it is too great.
func (b *builder) whole() (Re, bool) {
	if b.isFull() || b.parts[0].size > maxSize {
		return Re{}, false
	}
	return b.parts[0], true
}
