package kern

import "toolchest/api"

// Table is a process's descriptors.
type Table struct {
	kern *Kern
	has  [api.MaxFds]thing // nil: nothing
}

// Table is an empty one.
func (k *Kern) Table() *Table { return &Table{kern: k} }

func isDescriptor(fd int) bool { return fd >= 0 && fd < api.MaxFds }

// at is what a descriptor has; nil, if there is no such descriptor, too.
func (t *Table) at(fd int) thing {
	if !isDescriptor(fd) {
		return nil
	}
	return t.has[fd]
}

// set lets a descriptor have a thing. It has it ahead of leaving what it had, since both may be one file, which must not be let go between.
func (t *Table) set(fd int, x thing) {
	old := t.has[fd]
	x.gain()
	t.has[fd] = x
	t.kern.leave(old)
}

func (t *Table) unset(fd int) {
	old := t.has[fd]
	t.has[fd] = nil
	t.kern.leave(old)
}

// Put lays something down as a descriptor; Open opens a file.
func (t *Table) Put(fd, what int) api.Errno {
	if !isDescriptor(fd) {
		return api.ErrBadFd
	}
	x := t.kern.things[what]
	if x == nil {
		return api.ErrInval
	}
	t.set(fd, x)
	return api.OK
}

func (t *Table) Open(cwd, path string, how int) (int, api.Errno) {
	if how < api.OpenRead || how > api.OpenNew {
		return 0, api.ErrInval
	}
	fd, ok := t.least()
	if !ok {
		return 0, api.ErrMany
	}
	x, e := t.kern.open(cwd, path, how)
	if e != api.OK {
		return 0, e
	}
	t.set(fd, x)
	return fd, api.OK
}

// least is the least descriptor that has nothing.
func (t *Table) least() (int, bool) {
	for fd, x := range t.has {
		if x == nil {
			return fd, true
		}
	}
	return 0, false
}

// Read, Write, Close and Dup are of descriptors.
func (t *Table) Read(fd, most int) ([]byte, api.Errno) {
	x := t.at(fd)
	if x == nil {
		return nil, api.ErrBadFd
	}
	return t.kern.read(x, most)
}

func (t *Table) Write(fd int, b []byte) (int, api.Errno) {
	x := t.at(fd)
	if x == nil {
		return 0, api.ErrBadFd
	}
	return t.kern.write(x, b)
}

func (t *Table) Close(fd int) api.Errno {
	if t.at(fd) == nil {
		return api.ErrBadFd
	}
	t.unset(fd)
	return api.OK
}

func (t *Table) Dup(fd, to int) api.Errno {
	x := t.at(fd)
	if x == nil || !isDescriptor(to) {
		return api.ErrBadFd
	}
	t.set(to, x)
	return api.OK
}

// Fork is another table with the same; Free closes all; Open descriptors are told by Fds.
func (t *Table) Fork() *Table {
	child := t.kern.Table()
	for _, fd := range t.Fds() {
		child.set(fd, t.has[fd])
	}
	return child
}

func (t *Table) Free() {
	for _, fd := range t.Fds() {
		t.unset(fd)
	}
}

func (t *Table) Fds() []int {
	var fds []int
	for fd, x := range t.has {
		if x != nil {
			fds = append(fds, fd)
		}
	}
	return fds
}
