package sortkit

import "iter"

// pair is two spilt runs that are merged; the second one may have no lines.
type pair struct {
	spills *spills
	a, b   cursor // the lines of a are of earlier inputs
}

// open opens the files of one run or of two; false: one can't be opened, and that was said.
func (s *spills) open(runs []run) (*pair, bool) {
	p := &pair{spills: s}
	for i, c := range []*cursor{&p.a, &p.b}[:len(runs)] {
		if !c.open(s, runs[i].name) {
			return nil, false
		}
	}
	return p, true
}

func (p *pair) close() {
	p.a.close()
	p.b.close()
}

// merged are the lines of both in order, of those that are the same the earlier one first. They end where a file fails.
func (p *pair) merged(by ordering) iter.Seq[[]byte] {
	return func(yield func([]byte) bool) {
		p.a.next()
		p.b.next()
		for p.isAt() {
			n := p.compare(by)
			ahead := &p.a
			if n > 0 {
				ahead = &p.b
			}
			if !yield(ahead.line) {
				return
			}
			ahead.next()
			if n == 0 && by.isUnique { // the next one of b is another one, as no two of a run are the same
				p.b.next()
			}
		}
	}
}

// isAt tells whether there is a line of which it is known that it is the next one.
func (p *pair) isAt() bool { return !p.spills.failed && (p.a.isAt || p.b.isAt) }

// compare compares the lines at which both are; where one has none any more, the other one is ahead.
func (p *pair) compare(by ordering) int {
	switch {
	case !p.b.isAt:
		return -1
	case !p.a.isAt:
		return 1
	}
	return by.compare(p.a.line, p.b.line)
}
