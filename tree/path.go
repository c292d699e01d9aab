package tree

import (
	"iter"
	"strings"

	"toolchest/api"
)

// parts goes through the parts of a path.
func parts(path string) iter.Seq[string] {
	return func(yield func(string) bool) {
		for len(path) > 0 {
			part, rest, _ := strings.Cut(path, "/")
			if part != "" && !yield(part) {
				return
			}
			path = rest
		}
	}
}

// isName says whether an entry may have that name.
func isName(s string) bool {
	return s != "" && len(s) <= api.MaxName && !isDots(s) && !strings.ContainsAny(s, "/\x00")
}

func isDots(s string) bool {
	return s == "." || s == ".."
}

func endsWithSlash(path string) bool {
	return strings.HasSuffix(path, "/")
}

// lead goes part by part from a directory on.
func lead(from *node, path string) (*node, api.Errno) {
	at := from
	for part := range parts(path) {
		if !at.dir {
			return nil, api.ErrNotDir
		}
		switch {
		case part == ".":
		case part == "..":
			at = at.above
		case !isName(part):
			return nil, api.ErrName
		case at.entries[part] == nil:
			return nil, api.ErrNoEnt
		default:
			at = at.entries[part]
		}
	}
	return at, api.OK
}

// leadToDir is lead to a directory alone.
func leadToDir(from *node, path string) (*node, api.Errno) {
	n, e := lead(from, path)
	if e == api.OK && !n.dir {
		return nil, api.ErrNotDir
	}
	return n, e
}

// home is the directory that cwd is. Each call with a cwd asks for it first, since its errors go ahead of all else.
func (t *Tree) home(cwd string) (*node, api.Errno) {
	return leadToDir(t.root, cwd)
}

// start is where a path begins.
func (t *Tree) start(home *node, path string) *node {
	if strings.HasPrefix(path, "/") {
		return t.root
	}
	return home
}

// find is what a path leads to.
func (t *Tree) find(cwd, path string) (*node, api.Errno) {
	home, e := t.home(cwd)
	if e != api.OK {
		return nil, e
	}
	return t.findFrom(home, path)
}

func (t *Tree) findFrom(home *node, path string) (*node, api.Errno) {
	from := t.start(home, path)
	switch {
	case path == "":
		return nil, api.ErrNoEnt
	case endsWithSlash(path):
		return leadToDir(from, path)
	default:
		return lead(from, path)
	}
}

// place is where a name stands, or could stand.
type place struct {
	dir   *node
	name  string
	node  *node // nil, if there is no such entry
	slash bool  // the path ends with `/`
}

// seek is the place of a path's last part; none is the answer to a last part that can't be a name of its own: `.`, `..`, or no part at all.
func (t *Tree) seek(home *node, path string, none api.Errno) (place, api.Errno) {
	if path == "" {
		return place{}, api.ErrNoEnt
	}
	ahead, last := split(path)
	dir, e := leadToDir(t.start(home, path), ahead)
	switch {
	case e != api.OK:
		return place{}, e
	case last == "" || isDots(last):
		return place{}, none
	case !isName(last):
		return place{}, api.ErrName
	}
	return place{dir: dir, name: last, node: dir.entries[last], slash: endsWithSlash(path)}, api.OK
}

// split parts a path's last part (empty, if there is none) from what is ahead of it.
func split(path string) (ahead, last string) {
	path = strings.TrimRight(path, "/")
	i := strings.LastIndexByte(path, '/') + 1
	return path[:i], path[i:]
}

// depth is how far below the root a directory stands.
func depth(dir *node) int {
	n := 0
	for ; dir.above != dir; dir = dir.above {
		n++
	}
	return n
}

// height is how many levels stand below a node.
func height(n *node) int {
	most := 0
	for _, entry := range n.entries {
		most = max(most, 1+height(entry))
	}
	return most
}

// isWithin says whether a directory is top or below it.
func isWithin(dir, top *node) bool {
	for dir != top && dir.above != dir {
		dir = dir.above
	}
	return dir == top
}
