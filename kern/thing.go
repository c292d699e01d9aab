package kern

import "bytes"

// thing is what can be open. Any number of descriptors, of any tables, may have one.
type thing interface {
	gain()      // one descriptor more has it
	lose() bool // one fewer has it: does none have it now?
}

// users counts the descriptors that have a thing.
type users struct{ count int }

func (u *users) gain() { u.count++ }

func (u *users) lose() bool {
	u.count--
	return u.count == 0
}

// source are bytes that are read one behind the other.
type source struct {
	users
	rest []byte
}

// sink are the bytes that were written to it.
type sink struct {
	users
	said []byte
}

func said(x thing) []byte {
	if s, ok := x.(*sink); ok {
		return bytes.Clone(s.said)
	}
	return nil
}

// pipe is what its two ends share. It knows them both, since what one may do hangs on who has the other.
type pipe struct {
	data []byte
	from *readEnd
	to   *writeEnd
}

type readEnd struct {
	users
	pipe *pipe
}

type writeEnd struct {
	users
	pipe *pipe
}

// file is an open file: one place in it, whoever reads or writes there.
type file struct {
	users
	number int
	ino    int
	how    int
	place  int
}

type directory struct{ users }
