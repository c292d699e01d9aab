package ends

import "bytes"

// place is one in an input, whose chunks it is asked of, one behind the other: how many bytes of a chunk stand ahead of it, and whether it was come to.
type place func(b []byte) (int, bool)

// behindFeeds is the place behind the n-th line feed.
func behindFeeds(n int) place {
	return func(b []byte) (int, bool) {
		at := 0
		for n > 0 {
			i := bytes.IndexByte(b[at:], '\n')
			if i < 0 {
				return len(b), false
			}
			at += i + 1
			n--
		}
		return at, true
	}
}

// behindBytes is the place behind the n-th byte.
func behindBytes(n int) place {
	return func(b []byte) (int, bool) {
		at := min(n, len(b))
		n -= at
		return at, n == 0
	}
}
