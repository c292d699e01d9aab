package proc_test

import (
	"fmt"
	"math/rand"
	"slices"
	"testing"

	"toolchest/api"
	"toolchest/kern"
	"toolchest/proc"
	"toolchest/tree"
)

// caller is who makes calls: a process, or what it is held against.
type caller interface {
	Read(fd, most int) ([]byte, api.Errno)
	Write(fd int, b []byte) (int, api.Errno)
	Open(path string, how int) (int, api.Errno)
	Close(fd int) api.Errno
	Dup(fd, to int) api.Errno
	Pipe() (int, int, api.Errno)
	Stat(path string) (api.Stat, api.Errno)
	List(path string) ([]string, api.Errno)
	Make(path string, dir bool, mode int) api.Errno
	Remove(path string, dir bool) api.Errno
	Link(old, path string) api.Errno
	Rename(old, path string) api.Errno
	Mode(path string, mode int) api.Errno
	Touch(path string, tick int) api.Errno
}

// model makes each call at once, on a table and a tree.
type model struct {
	*kern.Table
	k   *kern.Kern
	cwd string
}

func (m model) tree() *tree.Tree { return m.k.Tree() }

func (m model) Open(path string, how int) (int, api.Errno) { return m.Table.Open(m.cwd, path, how) }

func (m model) Pipe() (int, int, api.Errno) {
	var free []int
	for fd := range api.MaxFds {
		if !slices.Contains(m.Fds(), fd) {
			free = append(free, fd)
		}
	}
	if len(free) < 2 {
		return 0, 0, api.ErrMany
	}
	from, to := m.k.Pipe()
	m.Put(free[0], from)
	m.Put(free[1], to)
	return free[0], free[1], api.OK
}

func (m model) Stat(path string) (api.Stat, api.Errno) { return m.tree().Stat(m.cwd, path) }

func (m model) List(path string) ([]string, api.Errno) { return m.tree().List(m.cwd, path) }

func (m model) Make(path string, dir bool, mode int) api.Errno {
	_, e := m.tree().Make(m.cwd, path, dir, mode, tick)
	return e
}

func (m model) Remove(path string, dir bool) api.Errno { return m.tree().Remove(m.cwd, path, dir) }

func (m model) Link(old, path string) api.Errno { return m.tree().Link(m.cwd, old, path) }

func (m model) Rename(old, path string) api.Errno { return m.tree().Rename(m.cwd, old, path) }

func (m model) Mode(path string, mode int) api.Errno { return m.tree().Mode(m.cwd, path, mode) }

func (m model) Touch(path string, tick int) api.Errno { return m.tree().Touch(m.cwd, path, tick) }

// op is a call with all that it is given.
type op struct {
	kind, n, m int
	path, to   string
	flag       bool
}

func (o op) do(c caller) string {
	switch o.kind {
	case 0, 1:
		b, e := c.Read(o.n, o.m)
		return fmt.Sprintf("%q %d", b, e)
	case 2, 3:
		n, e := c.Write(o.n, []byte(o.to))
		return fmt.Sprint(n, e)
	case 4:
		fd, e := c.Open(o.path, o.m)
		return fmt.Sprint(fd, e)
	case 5:
		return fmt.Sprint(c.Close(o.n))
	case 6:
		return fmt.Sprint(c.Dup(o.n, o.m))
	case 7:
		from, to, e := c.Pipe()
		return fmt.Sprint(from, to, e)
	case 8:
		s, e := c.Stat(o.path)
		return fmt.Sprint(s, e)
	case 9:
		l, e := c.List(o.path)
		return fmt.Sprint(l, e)
	case 10:
		return fmt.Sprint(c.Make(o.path, o.flag, o.n))
	case 11:
		return fmt.Sprint(c.Remove(o.path, o.flag))
	case 12:
		return fmt.Sprint(c.Link(o.path, o.to))
	case 13:
		return fmt.Sprint(c.Rename(o.path, o.to))
	case 14:
		return fmt.Sprint(c.Mode(o.path, o.n))
	}
	return fmt.Sprint(c.Touch(o.path, o.n))
}

// waitsForEver says that a call would be answered ErrAgain, which one process alone can't outwait.
func (o op) waitsForEver(a *kern.Table) bool {
	probe := a.Fork()
	defer probe.Free()
	var e api.Errno
	switch {
	case o.kind <= 1 && o.m > 0:
		_, e = probe.Read(o.n, o.m)
	case o.kind <= 3 && o.kind >= 2:
		_, e = probe.Write(o.n, []byte(o.to))
	}
	return e == api.ErrAgain
}

func randomOp(rnd *rand.Rand) op {
	paths := []string{"g", "/f", "x", "/d/y", "../z", "sub", "sub/w", "/", "", ".", "no/no"}
	return op{
		kind: rnd.Intn(16),
		n:    rnd.Intn(9) - 1,
		m:    rnd.Intn(7),
		path: paths[rnd.Intn(len(paths))],
		to:   paths[rnd.Intn(len(paths))],
		flag: rnd.Intn(3) == 0,
	}
}

// place is a kernel with a table as Run makes them.
type place struct {
	k    *kern.Kern
	out  int
	errs int
}

func newPlace(t *testing.T, l []api.Fault) (place, *kern.Table) {
	k := newKern(t, l...)
	a := k.Table()
	p := place{k: k}
	a.Put(0, k.Source([]byte("abcdefghij")))
	p.out, p.errs = k.Sink(), k.Sink()
	a.Put(1, p.out)
	a.Put(2, p.errs)
	return p, a
}

// shows is all that is to be seen of a kernel.
func (p place) shows(open []int) string {
	return fmt.Sprintf("%q %q %v %d %v", p.k.Said(p.out), p.k.Said(p.errs), p.k.Tree().Dump(), p.k.Used(), open)
}

// story is a process's calls, what they are answered, and what is to be seen behind each of them.
type story struct {
	ops     []op
	answers []string
	seen    []string
}

// newStory makes calls by chance, at once.
func newStory(t *testing.T, rnd *rand.Rand, l []api.Fault) story {
	var s story
	p, a := newPlace(t, l)
	for range rnd.Intn(25) {
		o := randomOp(rnd)
		// The probe takes bytes, if it may; so it is asked of another place, where all went the same way.
		twin, b := newPlace(t, l)
		for _, o := range s.ops {
			o.do(model{b, twin.k, "/d"})
		}
		if o.waitsForEver(b) {
			continue
		}
		s.ops = append(s.ops, o)
		s.answers = append(s.answers, o.do(model{a, p.k, "/d"}))
		s.seen = append(s.seen, p.shows(a.Fds()))
	}
	return s
}

func randomFaults(rnd *rand.Rand) []api.Fault {
	var l []api.Fault
	for range rnd.Intn(5) {
		l = append(l, api.Fault{Kind: rnd.Intn(6), N: rnd.Intn(4)})
	}
	return l
}

// main does what a story tells; what its calls are answered stands in heard.
func (s story) main(heard *[]string) func(*proc.Proc) int {
	return func(p *proc.Proc) int {
		var l []string
		defer func() { *heard = l }()
		for _, o := range s.ops {
			l = append(l, o.do(p))
		}
		return len(s.ops)
	}
}

// A process is told, with each step, what the kernel answers, and changes what the kernel changes, neither sooner nor later, once.
func TestAgainstTheModel(t *testing.T) {
	rnd := rand.New(rand.NewSource(42))
	for range 400 {
		l := randomFaults(rnd)
		s := newStory(t, rnd, l)
		p, a := newPlace(t, l)
		q := proc.New(p.k, []string{"u"}, nil, "/d", limits)
		for _, fd := range a.Fds() {
			q.Table().Put(fd, fd+1)
		}
		a.Free()
		var heard []string
		m := proc.Go(q, s.main(&heard))
		for n := range s.ops {
			stands(t, m, n, false, 0)
			same(t, "what main heard", heard, append([]string(nil), s.answers[:n]...))
			if n > 0 {
				same(t, "what is to be seen", p.shows(q.Table().Fds()), s.seen[n-1])
			}
			m.Step()
		}
		stands(t, m, len(s.ops), true, len(s.ops))
		same(t, "what main heard", heard, s.answers)
		if t.Failed() {
			t.Fatalf("with %v, %v", l, s.ops)
		}
	}
}

// What Run runs hears the same, and so does a child, but for a Write where nobody reads.
func TestRunAgainstTheModel(t *testing.T) {
	rnd := rand.New(rand.NewSource(43))
	for range 400 {
		l := slices.DeleteFunc(randomFaults(rnd), func(f api.Fault) bool { return f.Kind == api.FaultPipe })
		s := newStory(t, rnd, l)
		j := job("abcdefghij", l...)
		j.Cwd = "/d"
		var heard []string
		first := run(t, j, s.main(&heard))
		same(t, "what main heard", heard, s.answers)
		same(t, "Steps", first.Steps, len(s.ops))
		if slices.Contains(s.answers, fmt.Sprint(0, api.ErrPipe)) {
			continue
		}
		heard = nil
		second := run(t, j, func(p *proc.Proc) int {
			p.In(newBox(map[string]func(*proc.Proc) int{"u": s.main(&heard)}))
			n, _ := p.Spawn([]string{"u"}, nil, "/d", nil)
			p.Close(0)
			p.Close(1)
			p.Close(2)
			return await(p, n)
		})
		same(t, "what a child heard", heard, s.answers)
		same(t, "Steps", second.Steps, 4+len(s.ops)+1)
		second.Steps = first.Steps
		same(t, "what came of it", second, first)
		if t.Failed() {
			t.Fatalf("with %v, %v", l, s.ops)
		}
	}
}
