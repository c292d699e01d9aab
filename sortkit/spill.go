package sortkit

import (
	"slices"

	"toolchest/api"
	"toolchest/stepio"
	"toolchest/task"
	"toolchest/text"
)

// spills are the spill files of a process.
type spills struct {
	task     *task.Task
	standing []string // the names of those that are in the tree
	failed   bool     // one can't be made or read
}

const spillName = ".sort"

// fail says what is wrong with one.
func (s *spills) fail(name string, e api.Errno) {
	s.task.Fail(name, e)
	s.failed = true
}

// create makes one: its descriptor and its name; false: it can't be made, and that was said.
func (s *spills) create() (int, string, bool) {
	for {
		name := s.freeName()
		fd, e := s.task.Proc.Open(name, api.OpenNew)
		switch e {
		case api.OK:
			s.standing = append(s.standing, name)
			return fd, name, true
		case api.ErrExist: // another process has made it since
			continue
		}
		s.fail(name, e)
		return 0, "", false
	}
}

// freeName is the first name that there is not. The directory is listed for it, as trying one name behind the other might take as many steps as it has entries.
func (s *spills) freeName() string {
	taken, _ := s.task.Proc.List(".") // where that can't be, no file can be made either, and that is said
	for n := 0; ; n++ {
		name := spillName + text.Digits(n, 10)
		if !slices.Contains(taken, name) {
			return name
		}
	}
}

// remove takes the name of one out of the tree. Whoever has it open reads it yet.
func (s *spills) remove(name string) {
	s.standing = slices.DeleteFunc(s.standing, func(other string) bool { return other == name })
	s.task.Proc.Remove(name, false)
}

// removeAll leaves none in the tree.
func (s *spills) removeAll() {
	for len(s.standing) > 0 {
		s.remove(s.standing[0])
	}
}

// cursor goes through the lines of a spill file, one by one. Without a file it has none.
type cursor struct {
	spills *spills
	name   string
	fd     int
	reader *stepio.Reader
	line   []byte // at which it is
	isAt   bool   // there is one
}

// open lets a cursor stand ahead of the lines of a spill file, which is in the tree no more from then on, so that it is gone however the process ends; false: it can't be opened, and that was said.
func (c *cursor) open(s *spills, name string) bool {
	p := s.task.Proc
	fd, e := p.Open(name, api.OpenRead)
	if e != api.OK {
		s.fail(name, e)
		return false
	}
	s.remove(name)
	*c = cursor{spills: s, name: name, fd: fd, reader: stepio.New(p, fd)}
	return true
}

// next goes to the next line. When one of the spill files has failed, nothing more is read.
func (c *cursor) next() {
	c.isAt = false
	if c.reader == nil || c.spills.failed {
		return
	}
	line, ok, e := c.reader.Line()
	if e != api.OK {
		c.spills.fail(c.name, e)
	}
	c.line, c.isAt = line, ok
}

// close is for one that has gone through all lines: nothing is held of them any more.
func (c *cursor) close() { c.spills.task.Proc.Close(c.fd) }
