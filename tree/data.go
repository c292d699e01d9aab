package tree

// maxOffset is how far into a file is written at most: without it, one call could ask for any amount of noughts.
const maxOffset = 1 << 24

// Read are at most most bytes of a file from off on.
func (t *Tree) Read(ino, off, most int) []byte {
	f := t.files[ino]
	if f == nil || off < 0 || most <= 0 || off >= len(f.data) {
		return nil
	}
	b := make([]byte, min(most, len(f.data)-off))
	copy(b, f.data[off:])
	return b
}

// Write lays bytes into a file from off on.
func (t *Tree) Write(ino, off int, b []byte, now int) {
	f := t.files[ino]
	if f == nil || off < 0 || off > maxOffset || len(b) == 0 {
		return
	}
	if short := off + len(b) - len(f.data); short > 0 {
		f.data = append(f.data, make([]byte, short)...)
	}
	copy(f.data[off:], b)
	f.tick = now
}

// Cut takes all of a file's bytes away.
func (t *Tree) Cut(ino, now int) {
	if f := t.files[ino]; f != nil {
		f.data = nil
		f.tick = now
	}
}

// Size is how many bytes a file has.
func (t *Tree) Size(ino int) int {
	if f := t.files[ino]; f != nil {
		return len(f.data)
	}
	return 0
}

// Hold keeps a file once more, though it should lose its last name.
func (t *Tree) Hold(ino int) {
	if f := t.files[ino]; f != nil {
		f.holds++
	}
}

// Drop keeps a file once less.
func (t *Tree) Drop(ino int) {
	if f := t.files[ino]; f != nil {
		f.holds = max(0, f.holds-1)
		t.drain(f)
	}
}

// Files is how many files there are, with names or held.
func (t *Tree) Files() int {
	return len(t.files)
}
