package proc_test

import (
	"slices"
	"testing"

	"toolchest/api"
	"toolchest/proc"
)

// P4.3

// Each call is that of the table, or that of the tree from the process's Cwd on.
func TestCalls(t *testing.T) {
	r := newRig(t, "/d")
	m := proc.Go(r.p, func(p *proc.Proc) int {
		fd, e := p.Open("g", api.OpenRead)
		is(t, "Open", e, api.OK)
		same(t, "Open", fd, 3)
		b, e := p.Read(3, 9)
		is(t, "Read", e, api.OK)
		same(t, "Read", string(b), "gg")
		n, e := p.Write(1, []byte("xyz"))
		is(t, "Write", e, api.OK)
		same(t, "Write", n, 3)
		is(t, "Dup", p.Dup(3, 9), api.OK)
		is(t, "Close", p.Close(3), api.OK)
		s, e := p.Stat("g")
		is(t, "Stat", e, api.OK)
		same(t, "Stat", s, api.Stat{Ino: 4, Mode: 0o600, Tick: 7, Size: 2, Links: 1})
		is(t, "Make", p.Make("n", false, 0o640), api.OK)
		is(t, "Make", p.Make("m", true, 0o700), api.OK)
		l, e := p.List(".")
		is(t, "List", e, api.OK)
		same(t, "List", l, []string{"g", "m", "n"})
		is(t, "Link", p.Link("n", "m/o"), api.OK)
		is(t, "Rename", p.Rename("g", "../h"), api.OK)
		is(t, "Mode", p.Mode("n", 0o111), api.OK)
		is(t, "Touch", p.Touch("m", 3), api.OK)
		is(t, "Remove", p.Remove("n", false), api.OK)
		return 0
	})
	finish(t, m, 14, 0)
	r.said("xyz", "")
	same(t, "Dump", r.k.Tree().Dump(), []api.Node{
		{Path: "/d", Dir: true, Mode: 0o755, Tick: 7},
		{Path: "/d/m", Dir: true, Mode: 0o700, Tick: 3},
		{Path: "/d/m/o", Mode: 0o111, Tick: tick, Ino: 3, Data: nil},
		{Path: "/f", Mode: 0o600, Tick: 7, Ino: 4, Data: []byte("hello")},
		{Path: "/h", Mode: 0o600, Tick: 7, Ino: 5, Data: []byte("gg")},
	})
}

func TestRemoveADirectory(t *testing.T) {
	r := newRig(t, "")
	m := proc.Go(r.p, func(p *proc.Proc) int {
		is(t, "Remove", p.Remove("d", true), api.ErrNotEmpty)
		is(t, "Remove", p.Remove("d", false), api.ErrIsDir)
		is(t, "Remove", p.Remove("d/g", true), api.ErrNotDir)
		is(t, "Remove", p.Remove("d/g", false), api.OK)
		is(t, "Remove", p.Remove("d", true), api.OK)
		return 0
	})
	finish(t, m, 5, 0)
}

// Beside an error all else is nothing; an error takes its step, too.
func TestErrorsOfCalls(t *testing.T) {
	r := newRig(t, "/d")
	m := proc.Go(r.p, func(p *proc.Proc) int {
		b, e := p.Read(7, 1)
		is(t, "Read", e, api.ErrBadFd)
		same(t, "Read", len(b), 0)
		b, e = p.Read(0, 0)
		is(t, "Read", e, api.ErrInval)
		same(t, "Read", len(b), 0)
		n, e := p.Write(-1, []byte("x"))
		is(t, "Write", e, api.ErrBadFd)
		same(t, "Write", n, 0)
		fd, e := p.Open("f", api.OpenRead)
		is(t, "Open", e, api.ErrNoEnt)
		same(t, "Open", fd, 0)
		fd, e = p.Open("g", 5)
		is(t, "Open", e, api.ErrInval)
		same(t, "Open", fd, 0)
		is(t, "Close", p.Close(16), api.ErrBadFd)
		is(t, "Dup", p.Dup(0, 16), api.ErrBadFd)
		s, e := p.Stat("f")
		is(t, "Stat", e, api.ErrNoEnt)
		same(t, "Stat", s, api.Stat{})
		l, e := p.List("g")
		is(t, "List", e, api.ErrNotDir)
		same(t, "List", len(l), 0)
		is(t, "Make", p.Make("g", false, 0), api.ErrExist)
		is(t, "Remove", p.Remove("f", false), api.ErrNoEnt)
		is(t, "Link", p.Link("f", "x"), api.ErrNoEnt)
		is(t, "Rename", p.Rename("..", "x"), api.ErrBusy)
		is(t, "Mode", p.Mode("f", 0), api.ErrNoEnt)
		is(t, "Touch", p.Touch("", 0), api.ErrNoEnt)
		return 0
	})
	finish(t, m, 15, 0)
	same(t, "Dump", len(r.k.Tree().Dump()), 3)
}

// What is wrong with Cwd is told by each call that takes paths.
func TestCwdThatIsNotThere(t *testing.T) {
	r := newRig(t, "/no")
	m := proc.Go(r.p, func(p *proc.Proc) int {
		_, e := p.Open("/f", api.OpenRead)
		is(t, "Open", e, api.ErrNoEnt)
		_, e = p.Stat("/f")
		is(t, "Stat", e, api.ErrNoEnt)
		_, e = p.List("/")
		is(t, "List", e, api.ErrNoEnt)
		is(t, "Make", p.Make("/n", false, 0), api.ErrNoEnt)
		is(t, "Remove", p.Remove("/f", false), api.ErrNoEnt)
		is(t, "Link", p.Link("/f", "/n"), api.ErrNoEnt)
		is(t, "Rename", p.Rename("/f", "/n"), api.ErrNoEnt)
		is(t, "Mode", p.Mode("/f", 0), api.ErrNoEnt)
		is(t, "Touch", p.Touch("/f", 0), api.ErrNoEnt)
		return 0
	})
	finish(t, m, 9, 0)
}

func TestPipe(t *testing.T) {
	for _, c := range []struct {
		free     []int
		from, to int
		err      api.Errno
	}{
		{[]int{3, 4, 5}, 3, 4, api.OK},
		{[]int{0, 15}, 0, 15, api.OK},
		{[]int{14, 15}, 14, 15, api.OK},
		{[]int{2, 7, 9}, 2, 7, api.OK},
		{[]int{15}, 0, 0, api.ErrMany},
		{[]int{0}, 0, 0, api.ErrMany},
		{nil, 0, 0, api.ErrMany},
	} {
		k := newKern(t)
		p := proc.New(k, nil, nil, "", limits)
		full := k.Sink()
		var taken []int
		for fd := range api.MaxFds {
			if !slices.Contains(c.free, fd) {
				p.Table().Put(fd, full)
				taken = append(taken, fd)
			}
		}
		var from, to int
		var e api.Errno
		m := proc.Go(p, func(p *proc.Proc) int {
			from, to, e = p.Pipe()
			p.Close(-1)
			return 0
		})
		step(t, m, 1, false, 0)
		same(t, "Pipe", []int{from, to}, []int{c.from, c.to})
		is(t, "Pipe", e, c.err)
		if e != api.OK {
			fds(t, p.Table(), taken...)
			same(t, "the next open thing", k.Sink(), full+1)
			continue
		}
		n, e := p.Table().Write(to, []byte("in"))
		is(t, "Write", e, api.OK)
		same(t, "Write", n, 2)
		b, e := p.Table().Read(from, 9)
		is(t, "Read", e, api.OK)
		same(t, "Read", string(b), "in")
	}
}

// A Read that is answered ErrAgain is done once more, each time with a step, until there is another answer.
func TestReadOnceMore(t *testing.T) {
	r := newRig(t, "")
	from, to := r.k.Pipe()
	r.p.Table().Put(3, from)
	other := r.k.Table()
	other.Put(0, to)
	m := proc.Go(r.p, func(p *proc.Proc) int {
		p.Hold(1)
		b, e := p.Read(3, 9)
		p.Hold(1)
		is(t, "Read", e, api.OK)
		p.Write(1, b)
		b, e = p.Read(3, 9)
		is(t, "Read", e, api.OK)
		return len(b)
	})
	for n := range 3 {
		step(t, m, n+1, false, 0)
		same(t, "Held", m.Held(), 1)
	}
	other.Write(0, []byte("late"))
	step(t, m, 4, false, 0)
	same(t, "Held", m.Held(), 2)
	step(t, m, 5, false, 0)
	r.said("late", "")
	step(t, m, 6, false, 0)
	other.Free()
	step(t, m, 7, true, 0)
}

func TestWriteOnceMore(t *testing.T) {
	r := newRig(t, "")
	from, to := r.k.Pipe()
	r.p.Table().Put(3, to)
	other := r.k.Table()
	other.Put(0, from)
	other.Put(1, to)
	other.Write(1, make([]byte, api.PipeCap))
	m := proc.Go(r.p, func(p *proc.Proc) int {
		n, e := p.Write(3, []byte("late"))
		is(t, "Write", e, api.OK)
		same(t, "Write", n, 3)
		return n
	})
	step(t, m, 1, false, 0)
	step(t, m, 2, false, 0)
	other.Read(0, 3)
	step(t, m, 3, true, 3)
}

// ErrIntr and all other errors are told.
func TestOtherErrorsAreTold(t *testing.T) {
	for _, c := range []struct {
		fault int
		err   api.Errno
	}{
		{api.FaultIntr, api.ErrIntr},
		{api.FaultIO, api.ErrIO},
		{api.FaultSpace, api.ErrNoSpace},
		{api.FaultPipe, api.ErrPipe},
	} {
		r := newRig(t, "", api.Fault{Kind: c.fault})
		m := proc.Go(r.p, func(p *proc.Proc) int {
			_, e := p.Write(1, []byte("x"))
			return int(e)
		})
		finish(t, m, 1, int(c.err))
	}
}

// A call that no machine waits with is done at once.
func TestCallsWithoutAMachine(t *testing.T) {
	r := newRig(t, "")
	b, e := r.p.Read(0, 2)
	is(t, "Read", e, api.OK)
	same(t, "Read", string(b), "ab")
	from, to, e := r.p.Pipe()
	is(t, "Pipe", e, api.OK)
	same(t, "Pipe", []int{from, to}, []int{3, 4})
	_, e = r.p.Read(3, 1)
	is(t, "Read", e, api.ErrAgain)
	_, e = r.p.Wait(1)
	is(t, "Wait", e, api.ErrInval)
	m := proc.Go(r.p, only(func(p *proc.Proc) { p.Close(3) }))
	is(t, "Close", r.p.Close(3), api.OK)
	step(t, m, 1, true, 0)
	is(t, "Close", r.p.Close(0), api.ErrBadFd)
}
