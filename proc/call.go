package proc

import (
	"bytes"
	"slices"

	"toolchest/api"
)

// call is what a call does with a step.
type call func() *answer

// answer is what a call is answered, whichever it is.
type answer struct {
	number int
	second int // the other one of two descriptors
	bytes  []byte
	names  []string
	stat   api.Stat
	err    api.Errno
}

// ask lets a call be done by the machine that goes through main. Without one nobody steps the process, so it is done at once.
func (p *Proc) ask(do call) *answer {
	if p.runs == nil {
		return do()
	}
	return p.runs.ask(do)
}

// retold is what main was told of this call before; nil, if it is a new one. Calls that come in great numbers ask it first, and spare making what a call does that is not done.
func (p *Proc) retold() *answer {
	if p.runs == nil {
		return nil
	}
	return p.runs.retold()
}

// askErr is ask, of a call that is answered an error alone.
func (p *Proc) askErr(do func() api.Errno) api.Errno {
	return p.ask(func() *answer { return &answer{err: do()} }).err
}

// Calls of the kernel and its tree, each with a step.
func (p *Proc) Read(fd, most int) ([]byte, api.Errno) {
	a := p.retold()
	if a == nil {
		a = p.ask(func() *answer {
			b, e := p.table.Read(fd, most)
			return &answer{bytes: b, err: e}
		})
	}
	return bytes.Clone(a.bytes), a.err // main may change what it is told, and is told the same once more
}

func (p *Proc) Write(fd int, b []byte) (int, api.Errno) {
	a := p.retold()
	if a == nil {
		kept := bytes.Clone(b) // a later step writes it, and whose it is may change it till then
		a = p.ask(func() *answer {
			n, e := p.table.Write(fd, kept)
			return &answer{number: n, err: e}
		})
	}
	return a.number, a.err
}

func (p *Proc) Open(path string, how int) (int, api.Errno) {
	a := p.ask(func() *answer {
		fd, e := p.table.Open(p.cwd, path, how)
		return &answer{number: fd, err: e}
	})
	return a.number, a.err
}

func (p *Proc) Close(fd int) api.Errno {
	return p.askErr(func() api.Errno { return p.table.Close(fd) })
}

func (p *Proc) Dup(fd, to int) api.Errno {
	return p.askErr(func() api.Errno { return p.table.Dup(fd, to) })
}

func (p *Proc) Pipe() (int, int, api.Errno) {
	a := p.ask(p.layPipe)
	return a.number, a.second, a.err
}

// layPipe makes a pipe only when both of its ends have a place.
func (p *Proc) layPipe() *answer {
	free := p.free()
	if len(free) < 2 {
		return &answer{err: api.ErrMany}
	}
	from, to := p.kern.Pipe()
	p.table.Put(free[0], from)
	p.table.Put(free[1], to)
	return &answer{number: free[0], second: free[1]}
}

// free are the descriptors that have nothing, in order.
func (p *Proc) free() []int {
	var l []int
	taken := p.table.Fds()
	for fd := range api.MaxFds {
		if !slices.Contains(taken, fd) {
			l = append(l, fd)
		}
	}
	return l
}

func (p *Proc) Stat(path string) (api.Stat, api.Errno) {
	a := p.ask(func() *answer {
		s, e := p.kern.Tree().Stat(p.cwd, path)
		return &answer{stat: s, err: e}
	})
	return a.stat, a.err
}

func (p *Proc) List(path string) ([]string, api.Errno) {
	a := p.ask(func() *answer {
		l, e := p.kern.Tree().List(p.cwd, path)
		return &answer{names: l, err: e}
	})
	return slices.Clone(a.names), a.err
}

func (p *Proc) Make(path string, dir bool, mode int) api.Errno {
	return p.askErr(func() api.Errno {
		_, e := p.kern.Tree().Make(p.cwd, path, dir, mode, p.kern.Now())
		return e
	})
}

func (p *Proc) Remove(path string, dir bool) api.Errno {
	return p.askErr(func() api.Errno { return p.kern.Tree().Remove(p.cwd, path, dir) })
}

func (p *Proc) Link(old, path string) api.Errno {
	return p.askErr(func() api.Errno { return p.kern.Tree().Link(p.cwd, old, path) })
}

func (p *Proc) Rename(old, path string) api.Errno {
	return p.askErr(func() api.Errno { return p.kern.Tree().Rename(p.cwd, old, path) })
}

func (p *Proc) Mode(path string, mode int) api.Errno {
	return p.askErr(func() api.Errno { return p.kern.Tree().Mode(p.cwd, path, mode) })
}

func (p *Proc) Touch(path string, tick int) api.Errno {
	return p.askErr(func() api.Errno { return p.kern.Tree().Touch(p.cwd, path, tick) })
}
