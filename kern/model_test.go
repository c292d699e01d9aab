package kern_test

import (
	"bytes"
	"math/rand"
	"slices"
	"strconv"
	"testing"

	"toolchest/api"
	"toolchest/kern"
	"toolchest/tree"
)

// item is an open thing of the model: kinds are letters (s source, k sink, r and w a pipe's ends, f file, d directory).
type item struct {
	kind            byte
	data            []byte // a source's whole text, all that was ever written to a sink or to a pipe (at its end to write to)
	place, ino, how int
	gone            bool
}

// model is a kernel told another way: nothing is counted, who has what is looked up in all tables each time, and pipes forget nothing.
type model struct {
	tree   *tree.Tree
	faults []api.Fault
	items  []*item // the number 1 is the first one
	tables [][api.MaxFds]int
	now    int
}

func (m *model) item(n int) *item {
	if n < 1 || n > len(m.items) {
		return nil
	}
	return m.items[n-1]
}

func (m *model) had(n int) bool {
	return slices.ContainsFunc(m.tables, func(t [api.MaxFds]int) bool { return slices.Contains(t[:], n) })
}

// sweep lets files go that no descriptor has.
func (m *model) sweep() {
	for i, x := range m.items {
		if x.kind == 'f' && !x.gone && !m.had(i+1) {
			x.gone = true
			m.tree.Drop(x.ino)
		}
	}
}

func isFd(fd int) bool { return 0 <= fd && fd <= 15 }

func (m *model) has(a, fd int) int {
	if !isFd(fd) {
		return 0
	}
	return m.tables[a][fd]
}

func (m *model) put(a, fd, what int) api.Errno {
	if !isFd(fd) {
		return api.ErrBadFd
	}
	if x := m.item(what); x == nil || x.gone {
		return api.ErrInval
	}
	m.tables[a][fd] = what
	m.sweep()
	return api.OK
}

func (m *model) dup(a, fd, to int) api.Errno {
	if m.has(a, fd) == 0 || !isFd(to) {
		return api.ErrBadFd
	}
	return m.put(a, to, m.has(a, fd))
}

func (m *model) close(a, fd int) api.Errno {
	if m.has(a, fd) == 0 {
		return api.ErrBadFd
	}
	m.tables[a][fd] = 0
	m.sweep()
	return api.OK
}

func (m *model) free(a int) {
	m.tables[a] = [api.MaxFds]int{}
	m.sweep()
}

func (m *model) open(a int, cwd, path string, how int) (int, api.Errno) {
	fd := slices.Index(m.tables[a][:], 0)
	if how < 1 || how > 4 {
		return 0, api.ErrInval
	}
	if fd < 0 {
		return 0, api.ErrMany
	}
	ino, e := m.tree.Find(cwd, path)
	there := e == api.OK
	if how == 4 || how != 1 && e == api.ErrNoEnt {
		ino, e = m.tree.Make(cwd, path, false, 0o644, m.now)
	}
	if e != api.OK {
		return 0, e
	}
	s, _ := m.tree.Stat(cwd, path)
	x := &item{kind: 'f', ino: ino, how: how}
	if s.Dir {
		x.kind = 'd'
		if how != 1 {
			return 0, api.ErrIsDir
		}
	}
	if how == 2 && there {
		m.tree.Cut(ino, m.now)
	}
	m.tree.Hold(ino)
	m.items = append(m.items, x)
	m.tables[a][fd] = len(m.items)
	return fd, api.OK
}

// fault is the next one; none left is as one of no kind.
func (m *model) fault() api.Fault {
	if len(m.faults) == 0 {
		return api.Fault{}
	}
	f := m.faults[0]
	m.faults = m.faults[1:]
	return f
}

// rest are the bytes of a thing that come next.
func (m *model) rest(n int) []byte {
	x := m.item(n)
	switch x.kind {
	case 's':
		return x.data[x.place:]
	case 'r':
		return m.item(n + 1).data[x.place:]
	}
	all := m.tree.Read(x.ino, 0, 1<<20)
	return all[min(x.place, len(all)):]
}

func (m *model) read(a, fd, most int) ([]byte, api.Errno) {
	n := m.has(a, fd)
	if n == 0 {
		return nil, api.ErrBadFd
	}
	x := m.item(n)
	switch {
	case most < 1, x.kind == 'k', x.kind == 'w', x.kind == 'f' && (x.how == 2 || x.how == 3):
		return nil, api.ErrInval
	case x.kind == 'd':
		return nil, api.ErrIsDir
	case x.kind == 'r' && len(m.rest(n)) == 0 && m.had(n+1):
		return nil, api.ErrAgain
	}
	switch f := m.fault(); f.Kind {
	case 1:
		most = min(most, max(f.N, 1))
	case 2:
		return nil, api.ErrIntr
	case 4:
		return nil, api.ErrIO
	}
	b := m.rest(n)
	b = b[:min(most, len(b))]
	x.place += len(b)
	return b, api.OK
}

func (m *model) write(a, fd int, b []byte) (int, api.Errno) {
	n := m.has(a, fd)
	if n == 0 {
		return 0, api.ErrBadFd
	}
	x := m.item(n)
	room, at := len(b), x.place
	if x.kind == 'f' && x.how == 3 {
		at = m.tree.Size(x.ino)
	}
	switch x.kind {
	case 'w':
		room = 64 - len(m.rest(n-1))
	case 'f':
		room = 8192 - at
	}
	switch {
	case x.kind == 's', x.kind == 'r', x.kind == 'd', x.kind == 'f' && x.how == 1:
		return 0, api.ErrInval
	case len(b) == 0:
		return 0, api.OK
	case x.kind == 'w' && !m.had(n-1):
		return 0, api.ErrPipe
	case x.kind == 'w' && room == 0:
		return 0, api.ErrAgain
	case x.kind == 'f' && room <= 0:
		return 0, api.ErrNoSpace
	}
	b = b[:min(room, len(b))]
	switch f := m.fault(); f.Kind {
	case 1:
		b = b[:min(len(b), max(f.N, 1))]
	case 2:
		return 0, api.ErrIntr
	case 3:
		return 0, api.ErrNoSpace
	case 4:
		return 0, api.ErrIO
	case 5:
		return 0, api.ErrPipe
	}
	if x.kind == 'f' {
		m.tree.Write(x.ino, at, b, m.now)
		x.place = at + len(b)
	} else {
		x.data = append(x.data, b...)
	}
	return len(b), api.OK
}

// pair is a kernel and its model, to which the same is done.
type pair struct {
	*rand.Rand
	k      *kern.Kern
	tables []*kern.Table
	m      *model
	script int // how many faults there were
}

func newPair(seed int64) *pair {
	p := &pair{Rand: rand.New(rand.NewSource(seed))}
	faults := make([]api.Fault, p.Intn(150))
	for i := range faults {
		faults[i] = api.Fault{Kind: p.Intn(9) - 1, N: p.Intn(9) - 2}
	}
	p.k = kern.New(tree.New(), faults, int(seed))
	p.tables = []*kern.Table{p.k.Table()}
	p.m = &model{tree: tree.New(), faults: faults, now: int(seed), tables: make([][api.MaxFds]int, 1)}
	p.script = len(faults)
	return p
}

// fd is mostly one of a few.
func (p *pair) fd() int {
	if p.Intn(6) > 0 {
		return p.Intn(6)
	}
	return p.Intn(18) - 1
}

func (p *pair) text() []byte {
	b := make([]byte, []int{0, 1, 3, 40, 70, 5000}[p.Intn(6)])
	for i := range b {
		b[i] = byte('a' + p.Intn(26))
	}
	return b
}

func (p *pair) path() string {
	l := []string{"/a", "/b", "/c", "a", "b", "/d", "/d/x", "x", "/a/", "/a/x", "/no/x", "/", "", "/d/", tooLong}
	return l[p.Intn(len(l))]
}

func (p *pair) cwd() string {
	return []string{"", "", "/", "/d", "/a", "/no"}[p.Intn(6)]
}

// makes makes one more open thing in both.
func (p *pair) makes() (string, int, int) {
	m := p.m
	switch p.Intn(3) {
	case 0:
		b := p.text()
		m.items = append(m.items, &item{kind: 's', data: bytes.Clone(b)})
		return "Source", p.k.Source(b), len(m.items)
	case 1:
		m.items = append(m.items, &item{kind: 'k'})
		return "Sink", p.k.Sink(), len(m.items)
	}
	m.items = append(m.items, &item{kind: 'r'}, &item{kind: 'w'})
	from, to := p.k.Pipe()
	return "Pipe", from*1000 + to, len(m.items)*1001 - 1000
}

// names changes a name of both trees.
func (p *pair) names() (string, int, int) {
	cwd, old, path, dir := p.cwd(), p.path(), p.path(), p.Intn(2) == 0
	var l [2]api.Errno
	call := p.Intn(4)
	for i, x := range []*tree.Tree{p.k.Tree(), p.m.tree} {
		switch call {
		case 0:
			_, l[i] = x.Make(cwd, path, dir, 0o700, 1)
		case 1:
			l[i] = x.Remove(cwd, path, dir)
		case 2:
			l[i] = x.Link(cwd, old, path)
		case 3:
			l[i] = x.Rename(cwd, old, path)
		}
	}
	return "a name", int(l[0]), int(l[1])
}

// tablesCall makes, forks or frees a table in both.
func (p *pair) tablesCall(a int) (string, int, int) {
	m := p.m
	switch {
	case p.Intn(3) == 0:
		p.tables[a].Free()
		m.free(a)
		return "Free", 0, 0
	case len(p.tables) == 4:
		return "none", 0, 0
	case p.Intn(2) == 0:
		p.tables = append(p.tables, p.k.Table())
		m.tables = append(m.tables, [api.MaxFds]int{})
		return "Table", 0, 0
	}
	p.tables = append(p.tables, p.tables[a].Fork())
	m.tables = append(m.tables, m.tables[a])
	return "Fork", 0, 0
}

// both does one call to the kernel and to the model, and says what it was and what came of it in each.
func (p *pair) both() (what string, got, want int) {
	number := func(n int, e api.Errno) int { return n*100 + int(e) }
	a := p.Intn(len(p.tables))
	x, m := p.tables[a], p.m
	fd, to, thing := p.fd(), p.fd(), p.Intn(len(m.items)+3)-1
	switch p.Intn(16) {
	case 0:
		return p.makes()
	case 1:
		return p.names()
	case 2:
		return p.tablesCall(a)
	case 3, 4, 5:
		return "Put", int(x.Put(fd, thing)), int(m.put(a, fd, thing))
	case 6:
		return "Dup", int(x.Dup(fd, to)), int(m.dup(a, fd, to))
	case 7:
		return "Close", int(x.Close(fd)), int(m.close(a, fd))
	case 8, 9:
		cwd, path, how := p.cwd(), p.path(), p.Intn(6)
		return "Open", number(x.Open(cwd, path, how)), number(m.open(a, cwd, path, how))
	case 10, 11, 12:
		b := p.text()
		return "Write", number(x.Write(fd, b)), number(m.write(a, fd, b))
	}
	most := []int{-1, 0, 1, 1, 2, 5, 64, 100, 9000}[p.Intn(9)]
	b, e := x.Read(fd, most)
	c, f := m.read(a, fd, most)
	if !bytes.Equal(b, c) {
		return "Read, of which the bytes are others", int(e), -1
	}
	return "Read", int(e), int(f)
}

// agree holds all that a kernel tells against its model.
func (p *pair) agree(t *testing.T, what string) {
	t.Helper()
	if got, want := shown(p.k.Tree()), shown(p.m.tree); got != want {
		t.Fatalf("%s: the tree is\n%s\nnot\n%s", what, got, want)
	}
	if got, want := p.k.Used(), p.script-len(p.m.faults); got != want {
		t.Fatalf("%s: %d faults are used, not %d", what, got, want)
	}
	for a, x := range p.tables {
		var want []int
		for fd, n := range p.m.tables[a] {
			if n != 0 {
				want = append(want, fd)
			}
		}
		if got := x.Fds(); !slices.Equal(got, want) {
			t.Fatalf("%s: Fds: %v, not %v", what, got, want)
		}
	}
	for n := range len(p.m.items) + 2 {
		var want []byte
		if x := p.m.item(n); x != nil && x.kind == 'k' {
			want = x.data
		}
		if got := p.k.Said(n); !bytes.Equal(got, want) {
			t.Fatalf("%s: Said(%d): %q, not %q", what, n, got, want)
		}
	}
}

// P3.1 to P3.6: whatever is called one behind the other, a kernel and its model agree.
func TestAgainstModel(t *testing.T) {
	seen := map[string]int{}
	for seed := range 400 {
		p := newPair(int64(seed))
		for i := range 150 {
			what, got, want := p.both()
			if got != want {
				t.Fatalf("seed %d, call %d, %s: %d, not %d", seed, i, what, got, want)
			}
			seen[what+strconv.Itoa(got%100)]++
			p.agree(t, what)
		}
		for a := range p.tables {
			p.tables[a].Free()
			p.m.free(a)
		}
		p.agree(t, "all tables are freed")
	}
	for _, call := range []string{"Put0", "Put11", "Put16", "Dup0", "Dup11", "Close0", "Close11", "Open0", "Open1", "Open2", "Open3", "Open4", "Open13", "Open16",
		"Read0", "Read4", "Read7", "Read9", "Read10", "Read11", "Read16", "Write0", "Write6", "Write7", "Write8", "Write9", "Write10", "Write11", "Write16"} {
		if seen[call] == 0 {
			t.Errorf("%s has not come up", call)
		}
	}
}
