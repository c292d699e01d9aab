package stepio

import (
	"bytes"

	"toolchest/api"
	"toolchest/proc"
)

// Reader reads what a descriptor says, by chunks or by lines. Its process holds what stands ahead and what was handed out last.
type Reader struct {
	proc  *proc.Proc
	fd    int
	lim   api.Limits
	ahead []byte // what was read and not handed out
	last  int    // how many bytes were handed out last
	feed  bool   // behind the line that was handed out last
	ended bool   // nothing is read any more
}

// New is one of a process's descriptor.
func New(p *proc.Proc, fd int) *Reader { return &Reader{proc: p, fd: fd, lim: p.Lim()} }

// Chunk is some bytes, none at the end.
func (r *Reader) Chunk() ([]byte, api.Errno) {
	r.leaveLast()
	if e := r.look(r.lim.Buf); e != api.OK {
		return nil, e
	}
	return r.handOut(len(r.ahead)), api.OK
}

// Line is the next line, without its line feed; false: there is none.
func (r *Reader) Line() ([]byte, bool, api.Errno) {
	r.leaveLast()
	n, e := r.lineEnd()
	switch {
	case e != api.OK:
		r.leaveAhead()
		r.ended = e == api.ErrLine
		return nil, false, e
	case len(r.ahead) == 0:
		return nil, false, api.OK
	}
	r.feed = n < len(r.ahead)
	line := r.handOut(n)
	if r.feed { // nobody is handed it, and nobody needs it any more
		r.ahead = r.ahead[1:]
		r.proc.Drop(1)
	}
	return line, true, api.OK
}

// lineEnd is where the next line ends in what stands ahead, which it reads till then. It does not go on behind the byte by which the line is too long, so that no more than a line and a buffer stands ahead.
func (r *Reader) lineEnd() (int, api.Errno) {
	n := 0
	for {
		i := bytes.IndexByte(r.ahead[n:], '\n')
		if i >= 0 {
			n += i
		} else {
			n = len(r.ahead)
		}
		switch {
		case n > r.lim.Line:
			return 0, api.ErrLine
		case i >= 0 || r.ended:
			return n, api.OK
		}
		if e := r.read(r.lim.Buf); e != api.OK {
			return 0, e
		}
	}
}

// More tells whether there is another byte.
func (r *Reader) More() (bool, api.Errno) {
	if e := r.look(r.room()); e != api.OK {
		r.ended = true
		return false, e
	}
	return len(r.ahead) > 0, api.OK
}

// room is how much may be read while what was handed out last is held yet: a chunk may be longer than a line, and leaves that much less.
func (r *Reader) room() int { return r.lim.Buf - max(0, r.last-max(0, r.lim.Line)) }

// Feed tells whether the last line had a line feed.
func (r *Reader) Feed() bool { return r.feed }

// Free lets go what it holds.
func (r *Reader) Free() {
	r.leaveLast()
	r.leaveAhead()
}

// look reads, if nothing stands ahead and something may come yet.
func (r *Reader) look(most int) api.Errno {
	if len(r.ahead) > 0 || r.ended {
		return api.OK
	}
	return r.read(most)
}

// read lets more bytes stand ahead, or finds the end.
func (r *Reader) read(most int) api.Errno {
	b, e := r.proc.Read(r.fd, most)
	for e == api.ErrIntr {
		b, e = r.proc.Read(r.fd, most)
	}
	if e != api.OK {
		return e
	}
	r.ended = len(b) == 0
	r.ahead = append(r.ahead, b...)
	r.proc.Hold(len(b))
	return api.OK
}

// handOut is the first bytes of those that stand ahead. Whoever appends to them must not write over those that follow, so there is no room behind them.
func (r *Reader) handOut(n int) []byte {
	b := r.ahead[:n:n]
	r.ahead, r.last = r.ahead[n:], n
	return b
}

func (r *Reader) leaveLast() {
	r.proc.Drop(r.last)
	r.last = 0
}

func (r *Reader) leaveAhead() {
	r.proc.Drop(len(r.ahead))
	r.ahead = nil
}
