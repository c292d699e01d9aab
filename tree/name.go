package tree

import (
	"strings"

	"toolchest/api"
)

// Make makes a file or a directory.
func (t *Tree) Make(cwd, path string, dir bool, mode, now int) (int, api.Errno) {
	home, e := t.home(cwd)
	if e != api.OK {
		return 0, e
	}
	p, e := t.vacant(home, path, dir)
	if e != api.OK {
		return 0, e
	}
	n := t.made(p, dir, mode&modeBits, now)
	t.put(p, n)
	return n.ino, api.OK
}

// vacant is a place for one more entry.
func (t *Tree) vacant(home *node, path string, dir bool) (place, api.Errno) {
	p, e := t.seek(home, path, api.ErrExist)
	switch {
	case e != api.OK:
		return place{}, e
	case p.node != nil:
		return place{}, api.ErrExist
	case p.slash && !dir:
		return place{}, api.ErrNotDir
	case depth(p.dir)+1 > api.MaxDepth:
		return place{}, api.ErrDepth
	case t.names >= api.MaxNodes:
		return place{}, api.ErrMany
	}
	return p, api.OK
}

// made is a new file or directory with the next number, which is yet to be put in its place.
func (t *Tree) made(p place, dir bool, mode, tick int) *node {
	t.last++
	n := &node{ino: t.last, mode: mode, tick: tick, dir: dir}
	if dir {
		n.above = p.dir
		n.entries = map[string]*node{}
	} else {
		t.files[n.ino] = n
	}
	return n
}

// put gives a node the name of a place where nothing stands. The name is copied, since a piece of a long path would keep all of it.
func (t *Tree) put(p place, n *node) {
	p.dir.entries[strings.Clone(p.name)] = n
	t.names++
	if n.dir {
		n.above = p.dir
	} else {
		n.links++
	}
}

// take takes an entry away, with its node left as it is.
func (t *Tree) take(p place) {
	delete(p.dir.entries, p.name)
	t.names--
	if !p.node.dir {
		p.node.links--
	}
}

// drain forgets a file that has no name and that nobody holds.
func (t *Tree) drain(n *node) {
	if !n.dir && n.links == 0 && n.holds == 0 {
		delete(t.files, n.ino)
	}
}

// Remove takes a name away.
func (t *Tree) Remove(cwd, path string, dir bool) api.Errno {
	home, e := t.home(cwd)
	if e != api.OK {
		return e
	}
	p, e := t.seek(home, path, api.ErrBusy)
	switch {
	case e != api.OK:
		return e
	case p.node == nil:
		return api.ErrNoEnt
	case dir:
		e = mayGoAsDir(p.node, home)
	case p.node.dir:
		e = api.ErrIsDir
	case p.slash:
		e = api.ErrNotDir
	}
	if e == api.OK {
		t.take(p)
		t.drain(p.node)
	}
	return e
}

// mayGoAsDir says what keeps a node from going as a directory without entries.
func mayGoAsDir(n, home *node) api.Errno {
	switch {
	case !n.dir:
		return api.ErrNotDir
	case len(n.entries) > 0:
		return api.ErrNotEmpty
	case n == home:
		return api.ErrBusy
	}
	return api.OK
}

// Link gives a file one name more.
func (t *Tree) Link(cwd, old, path string) api.Errno {
	home, e := t.home(cwd)
	if e != api.OK {
		return e
	}
	n, e := t.findFrom(home, old)
	switch {
	case e != api.OK:
		return e
	case n.dir:
		return api.ErrIsDir
	}
	p, e := t.vacant(home, path, false)
	if e == api.OK {
		t.put(p, n)
	}
	return e
}

// Rename gives what has one name another one instead.
func (t *Tree) Rename(cwd, old, path string) api.Errno {
	home, e := t.home(cwd)
	if e != api.OK {
		return e
	}
	from, e := t.seek(home, old, api.ErrBusy)
	switch {
	case e != api.OK:
		return e
	case from.node == nil:
		return api.ErrNoEnt
	}
	to, e := t.seek(home, path, api.ErrBusy)
	switch {
	case e != api.OK:
		return e
	case !from.node.dir && (from.slash || to.slash):
		return api.ErrNotDir
	case from.node == to.node:
		return api.OK
	}
	if e := mayStand(from, to, home); e != api.OK {
		return e
	}
	t.replace(from, to)
	return api.OK
}

// mayStand says what keeps from's node from standing at to, where another one or none stands.
func mayStand(from, to place, home *node) api.Errno {
	if from.node.dir && isWithin(to.dir, from.node) {
		return api.ErrInval
	}
	if to.node != nil {
		e := api.OK
		switch {
		case from.node.dir:
			e = mayGoAsDir(to.node, home)
		case to.node.dir:
			e = api.ErrIsDir
		}
		if e != api.OK {
			return e
		}
	}
	if depth(to.dir)+1+height(from.node) > api.MaxDepth {
		return api.ErrDepth
	}
	return api.OK
}

// replace moves an entry; a node that stands there already goes.
func (t *Tree) replace(from, to place) {
	if to.node != nil {
		t.take(to)
		t.drain(to.node)
	}
	t.take(from)
	t.put(to, from.node)
}
