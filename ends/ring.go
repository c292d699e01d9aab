package ends

// ring keeps the last ones of what is put into it, at most so many.
type ring[T any] struct {
	most   int
	items  []T
	oldest int // its place among the items
}

// put keeps one more. If there is no room, the oldest one goes for it: that one, and true.
func (r *ring[T]) put(x T) (T, bool) {
	var gone T
	switch {
	case r.most == 0:
		return x, true
	case len(r.items) < r.most:
		r.items = append(r.items, x)
		return gone, false
	}
	gone, r.items[r.oldest] = r.items[r.oldest], x
	r.oldest = (r.oldest + 1) % r.most
	return gone, true
}

// turned are those that it keeps, from the oldest one on. The newer ones are appended to a slice that has no room behind it, so that they come to stand in new memory, and not over others that the ring keeps.
func (r *ring[T]) turned() []T {
	n := len(r.items)
	return append(r.items[r.oldest:n:n], r.items[:r.oldest]...)
}
