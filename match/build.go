package match

import "toolchest/regex"

// Kinds of states.
const (
	stood   = iota // all of the expression has stood
	one            // a byte of a set is next
	atBegin        // here is the beginning
	atEnd          // here is the end
	either         // it goes on in one of two ways
)

// state is what is asked at a place, and by which states it goes on.
type state struct {
	kind, set   int
	next, other int
}

// builder makes the states of nodes, those behind ahead of those before them, so that each one knows how it goes on.
type builder struct {
	prog    *Prog
	numbers map[[256]bool]int // of the sets
	left    []func()          // what is to be done yet, the next thing last: nodes are not called for, since they may stand very deep within one another
}

func build(root *regex.Node) *Prog {
	b := &builder{prog: &Prog{}, numbers: map[[256]bool]int{}}
	b.put(state{kind: stood})
	b.node(root)
	for len(b.left) > 0 {
		last := len(b.left) - 1
		do := b.left[last]
		b.left = b.left[:last]
		do()
	}
	return b.prog
}

// put puts a state ahead of all others: with it the expression begins.
func (b *builder) put(s state) {
	b.prog.first = len(b.prog.states)
	b.prog.states = append(b.prog.states, s)
}

// later puts something off. What was put off last is done first.
func (b *builder) later(do func()) { b.left = append(b.left, do) }

// node puts a node ahead; its kids are put later.
func (b *builder) node(n *regex.Node) {
	behind := b.prog.first
	switch n.Kind {
	case regex.Set:
		b.put(state{kind: one, set: b.set(n.Has), next: behind})
	case regex.Begin:
		b.put(state{kind: atBegin, next: behind})
	case regex.End:
		b.put(state{kind: atEnd, next: behind})
	case regex.Cat:
		b.kids(n.Kids)
	case regex.Alt:
		b.branches(n.Kids)
	case regex.Rep:
		b.repeat(n.Kids[0], n.Min, n.Max)
	}
}

// set is the number of a set, of which each stands there once.
func (b *builder) set(has [256]bool) int {
	n, ok := b.numbers[has]
	if !ok {
		n = len(b.prog.sets)
		b.numbers[has] = n
		b.prog.sets = append(b.prog.sets, has)
	}
	return n
}

// kids puts nodes ahead, the last one first.
func (b *builder) kids(l []*regex.Node) {
	for _, k := range l {
		b.later(func() { b.node(k) })
	}
}

// branches puts nodes ahead of which any may stand, the last one first.
func (b *builder) branches(l []*regex.Node) {
	behind, last := b.prog.first, len(l)-1
	for _, k := range l[:last] {
		b.later(func() {
			others := b.prog.first
			b.prog.first = behind
			b.later(func() { b.fork(others) })
			b.node(k)
		})
	}
	b.kids(l[last:])
}

// fork lets what was put last be left out for another state.
func (b *builder) fork(other int) {
	b.put(state{kind: either, next: b.prog.first, other: other})
}

// repeat puts a node ahead so many times; those that may be left out stand behind the others.
func (b *builder) repeat(kid *regex.Node, least, most int) {
	again := func() { b.node(kid) }
	behind := b.prog.first
	if most < 0 {
		b.loop(again, least)
		return
	}
	for range least {
		b.later(again)
	}
	for range most - least {
		b.later(func() { b.fork(behind) })
		b.later(again)
	}
}

// loop puts something ahead that may stand again and again, so many times at least.
func (b *builder) loop(again func(), least int) {
	b.put(state{kind: either, other: b.prog.first}) // on to the kid only when that is there
	loop := b.prog.first
	for range least - 1 {
		b.later(again)
	}
	b.later(func() {
		b.prog.states[loop].next = b.prog.first
		if least == 0 {
			b.prog.first = loop
		}
	})
	b.later(again)
}
