package width

// column is how far a line's bytes have come, from 0 on.
type column int

// goOn moves it by a byte. A tab moves it to the next stop, or one on, if there is none.
func (c *column) goOn(b byte, next stopping) {
	switch b {
	case '\t':
		to, ok := next(int(*c))
		if !ok {
			to = int(*c) + 1
		}
		*c = column(to)
	case '\b':
		*c = max(0, *c-1)
	default:
		*c++
	}
}

// goOnBy moves it by bytes, one behind the other.
func (c *column) goOnBy(line []byte, next stopping) {
	for _, b := range line {
		c.goOn(b, next)
	}
}
