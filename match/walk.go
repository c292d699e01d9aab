package match

// trail is how a part of the bytes was gone over: from which place on, and to which state that led.
type trail struct{ begin, state int }

// walk goes through bytes, at each place by all states at a time that can be come to there.
type walk struct {
	states []state
	size   int // of the bytes
	// Trails at the next place, by where they begin. Of those that lead to one state only the first is kept: however it goes on, they all can, and none of them begins earlier.
	trails  []trail
	room    []trail // for those of the place behind it
	reached []int   // the place at which each state was come to last, and 1
	left    []int   // states that are to be come to yet
}

func (p *Prog) walk(b []byte) *walk {
	return &walk{states: p.states, size: len(b), reached: make([]int, len(p.states))}
}

// next are the trails at the next place; those that are made from then on are of the one behind it.
func (w *walk) next() []trail {
	here := w.trails
	w.trails, w.room = w.room[:0], here
	return here
}

// reach comes to a state at a place, and on to all states that stand ahead of the next byte.
func (w *walk) reach(n, begin, at int) {
	for w.left = append(w.left, n); len(w.left) > 0; {
		last := len(w.left) - 1
		n = w.left[last]
		w.left = w.left[:last]
		if w.reached[n] == at+1 {
			continue
		}
		w.reached[n] = at + 1
		switch s := &w.states[n]; s.kind {
		case atBegin:
			if at == 0 {
				w.left = append(w.left, s.next)
			}
		case atEnd:
			if at == w.size {
				w.left = append(w.left, s.next)
			}
		case either:
			w.left = append(w.left, s.other, s.next)
		default:
			w.trails = append(w.trails, trail{begin, n})
		}
	}
}
