package kern

import (
	"bytes"
	"math"
	"slices"

	"toolchest/api"
)

// read does a transfer from a thing.
func (k *Kern) read(x thing, most int) ([]byte, api.Errno) {
	if e := mayRead(x, most); e != api.OK {
		return nil, e
	}
	most, e := k.befall(most, false)
	if e != api.OK {
		return nil, e
	}
	return k.take(x, most), api.OK
}

// write does a transfer to a thing.
func (k *Kern) write(x thing, b []byte) (int, api.Errno) {
	if !isWritable(x) {
		return 0, api.ErrInval
	}
	if len(b) == 0 {
		return 0, api.OK
	}
	room, e := k.room(x)
	if e != api.OK {
		return 0, e
	}
	n, e := k.befall(min(len(b), room), true)
	if e != api.OK {
		return 0, e
	}
	k.give(x, b[:n])
	return n, api.OK
}

// befall uses up the next fault, if there is one left: how many bytes, of at most most, it lets through.
func (k *Kern) befall(most int, isWrite bool) (int, api.Errno) {
	if k.used == len(k.faults) {
		return most, api.OK
	}
	f := k.faults[k.used]
	k.used++
	switch {
	case f.Kind == api.FaultShort:
		return min(most, max(f.N, 1)), api.OK
	case f.Kind == api.FaultIntr:
		return 0, api.ErrIntr
	case f.Kind == api.FaultIO:
		return 0, api.ErrIO
	case f.Kind == api.FaultSpace && isWrite:
		return 0, api.ErrNoSpace
	case f.Kind == api.FaultPipe && isWrite:
		return 0, api.ErrPipe
	}
	return most, api.OK
}

// mayRead says what keeps a Read from being attempted.
func mayRead(x thing, most int) api.Errno {
	if most < 1 {
		return api.ErrInval
	}
	switch x := x.(type) {
	case *sink, *writeEnd:
		return api.ErrInval
	case *file:
		if x.how == api.OpenWrite || x.how == api.OpenAppend {
			return api.ErrInval
		}
	case *directory:
		return api.ErrIsDir
	case *readEnd:
		if len(x.pipe.data) == 0 && x.pipe.to.count > 0 {
			return api.ErrAgain
		}
	}
	return api.OK
}

// take are the bytes of a readable thing that come next.
func (k *Kern) take(x thing, most int) []byte {
	switch x := x.(type) {
	case *source:
		n := min(most, len(x.rest))
		b := bytes.Clone(x.rest[:n])
		x.rest = x.rest[n:]
		return b
	case *readEnd:
		p := x.pipe
		n := min(most, len(p.data))
		b := bytes.Clone(p.data[:n])
		p.data = slices.Delete(p.data, 0, n)
		return b
	case *file:
		b := k.tree.Read(x.ino, x.place, most)
		x.place += len(b)
		return b
	}
	return nil
}

func isWritable(x thing) bool {
	switch x := x.(type) {
	case *sink, *writeEnd:
		return true
	case *file:
		return x.how != api.OpenRead
	}
	return false
}

// room is how many bytes a writable thing can take now, one at least, or what keeps a Write from being attempted.
func (k *Kern) room(x thing) (int, api.Errno) {
	switch x := x.(type) {
	case *writeEnd:
		held := len(x.pipe.data)
		switch {
		case x.pipe.from.count == 0:
			return 0, api.ErrPipe
		case held >= api.PipeCap:
			return 0, api.ErrAgain
		}
		return api.PipeCap - held, api.OK
	case *file:
		at := k.writePlace(x)
		if at >= api.MaxData {
			return 0, api.ErrNoSpace
		}
		return api.MaxData - at, api.OK
	}
	return math.MaxInt, api.OK
}

// writePlace is where the next byte of a file would be written: who appends asks each time anew, since others may have written meanwhile.
func (k *Kern) writePlace(f *file) int {
	if f.how == api.OpenAppend {
		return k.tree.Size(f.ino)
	}
	return f.place
}

// give lays bytes, for which there is room, into a writable thing.
func (k *Kern) give(x thing, b []byte) {
	switch x := x.(type) {
	case *sink:
		x.said = append(x.said, b...)
	case *writeEnd:
		x.pipe.data = append(x.pipe.data, b...)
	case *file:
		at := k.writePlace(x)
		k.tree.Write(x.ino, at, b, k.now)
		x.place = at + len(b)
	}
}
