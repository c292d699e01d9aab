package proc_test

import (
	"math"
	"testing"

	"toolchest/api"
	"toolchest/proc"
)

// P4.1

func TestTold(t *testing.T) {
	k := newKern(t)
	p := proc.New(k, []string{"u", "", "b"}, []string{"A=1", "B"}, "/d/x", limits)
	same(t, "Args", p.Args(), []string{"u", "", "b"})
	same(t, "Env", p.Env(), []string{"A=1", "B"})
	same(t, "Cwd", p.Cwd(), "/d/x")
	same(t, "Lim", p.Lim(), limits)
	if p.Kern() != k {
		t.Error("Kern is another one")
	}
	fds(t, p.Table())
	empty := proc.New(k, nil, nil, "", api.Limits{})
	if len(empty.Args()) != 0 || len(empty.Env()) != 0 || empty.Cwd() != "" || empty.Lim() != (api.Limits{}) {
		t.Error("a process that was told nothing tells something")
	}
	empty.Table().Put(3, k.Sink())
	fds(t, empty.Table(), 3)
	fds(t, p.Table())
	if p.Table() != p.Table() {
		t.Error("Table is another one each time")
	}
}

func TestGet(t *testing.T) {
	env := []string{"AB=ab", "A=1", "A=2", "E=", "Q=x=y", "N", "=nameless", "AB", "P=Q=z", "XAB=no"}
	for _, c := range []struct {
		name, value string
		is          bool
	}{
		{"A", "1", true},
		{"AB", "ab", true},
		{"E", "", true},
		{"Q", "x=y", true},
		{"Q=x", "y", true},
		{"P=Q", "z", true},
		{"", "nameless", true},
		{"N", "", false},
		{"B", "", false},
		{"ABC", "", false},
		{"XA", "", false},
		{"a", "", false},
		{"A=", "", false},
		{"A=1", "", false},
	} {
		p := proc.New(newKern(t), nil, env, "", limits)
		if value, is := p.Get(c.name); value != c.value || is != c.is {
			t.Errorf("Get(%q): %q, %v", c.name, value, is)
		}
	}
	if value, is := proc.New(newKern(t), nil, nil, "", limits).Get("A"); value != "" || is {
		t.Errorf("Get of no Env: %q, %v", value, is)
	}
}

func TestWhatIsToldIsNotShared(t *testing.T) {
	args, env := []string{"u", "a", "spare"}, []string{"A=1", "B=2", "spare"}
	p := proc.New(newKern(t), args[:2], env[:2], "", limits)
	args[0], env[0] = "x", "A=x"
	a, e := p.Args(), p.Env()
	same(t, "Args", a, []string{"u", "a"})
	same(t, "Env", e, []string{"A=1", "B=2"})
	a[0], e[0] = "y", "A=y"
	_ = append(a[:1], "z")
	same(t, "Args", p.Args(), []string{"u", "a"})
	same(t, "Env", p.Env(), []string{"A=1", "B=2"})
	same(t, "what was handed in", append(args, env...), []string{"x", "a", "spare", "A=x", "B=2", "spare"})
}

// P4.2

func TestNoCallNoStep(t *testing.T) {
	for _, status := range []int{0, 1, 255, 256, -1} {
		r := newRig(t, "")
		m := proc.Go(r.p, func(*proc.Proc) int { return status })
		stands(t, m, 0, true, status)
		fds(t, r.p.Table())
		step(t, m, 0, true, status)
		step(t, m, 0, true, status)
	}
}

// Nothing is to be seen between two steps but what calls have done.
func TestOneCallAStep(t *testing.T) {
	r := newRig(t, "")
	m := proc.Go(r.p, func(p *proc.Proc) int {
		b, _ := p.Read(0, 2)
		p.Write(1, b)
		p.Make("/n", false, 0o644)
		p.Write(2, []byte("e"))
		return 7
	})
	isMade := func(want api.Errno) {
		t.Helper()
		_, e := r.k.Tree().Stat("", "/n")
		is(t, "Stat", e, want)
	}
	stands(t, m, 0, false, 0)
	step(t, m, 1, false, 0)
	r.said("", "")
	step(t, m, 2, false, 0)
	r.said("ab", "")
	isMade(api.ErrNoEnt)
	step(t, m, 3, false, 0)
	isMade(api.OK)
	r.said("ab", "")
	fds(t, r.p.Table(), 0, 1, 2)
	step(t, m, 4, true, 7)
	r.said("ab", "e")
	fds(t, r.p.Table())
	step(t, m, 4, true, 7)
	r.said("ab", "e")
}

// What a call is answered hangs on how things stand when its step comes, not on how they stood when main came to it.
func TestACallIsDoneWithItsStep(t *testing.T) {
	r := newRig(t, "")
	var size int
	m := proc.Go(r.p, func(p *proc.Proc) int {
		s, _ := p.Stat("/f")
		size = s.Size
		return 0
	})
	s, _ := r.k.Tree().Stat("", "/f")
	r.k.Tree().Write(s.Ino, 0, []byte("hello, you"), 0)
	step(t, m, 1, true, 0)
	same(t, "size", size, 10)
}

// Main is told the same each time, whatever it does to what it was told.
func TestMainIsToldTheSame(t *testing.T) {
	r := newRig(t, "/d")
	m := proc.Go(r.p, func(p *proc.Proc) int {
		b, _ := p.Read(0, 3)
		l, _ := p.List("/")
		text := string(b) + l[0] + l[1]
		b[0], l[0], l[1] = 'X', "X", "X"
		p.Write(1, []byte(text))
		p.Write(1, []byte(text))
		p.Close(0)
		return len(text)
	})
	finish(t, m, 5, 5)
	r.said("abcdfabcdf", "")
}

// What is written, and what a child is started with, is taken as it was when main came to the call.
func TestWhatWaitsIsNotShared(t *testing.T) {
	r := newRig(t, "")
	m := proc.Go(r.p, func(p *proc.Proc) int {
		b := []byte("good")
		defer copy(b, "evil")
		p.Write(1, b)
		return 0
	})
	finish(t, m, 1, 0)
	r.said("good", "")
}

func TestKill(t *testing.T) {
	r := newRig(t, "")
	m := proc.Go(r.p, func(p *proc.Proc) int {
		p.Hold(3)
		p.Write(1, []byte("a"))
		p.Write(1, []byte("b"))
		return 5
	})
	step(t, m, 1, false, 0)
	m.Kill()
	stands(t, m, 1, true, 137)
	fds(t, r.p.Table())
	same(t, "Held", m.Held(), 0)
	same(t, "Peak", m.Peak(), 3)
	m.Kill()
	step(t, m, 1, true, 137)
	r.said("a", "")

	r = newRig(t, "")
	m = proc.Go(r.p, only(func(p *proc.Proc) { p.Close(2) }))
	m.Kill()
	stands(t, m, 0, true, 137)
	fds(t, r.p.Table())

	r = newRig(t, "")
	m = proc.Go(r.p, only(func(p *proc.Proc) { p.Close(2) }))
	finish(t, m, 1, 0)
	m.Kill()
	stands(t, m, 1, true, 0)
}

// A file without a name is gone when the process that had it open has ended.
func TestTheEndClosesFiles(t *testing.T) {
	r := newRig(t, "")
	m := proc.Go(r.p, func(p *proc.Proc) int {
		p.Open("/f", api.OpenRead)
		p.Remove("/f", false)
		p.Close(0)
		return 0
	})
	m.Step()
	m.Step()
	same(t, "Files", r.k.Tree().Files(), 2)
	step(t, m, 3, true, 0)
	same(t, "Files", r.k.Tree().Files(), 1)
}

// What main has deferred is done at its end, not each time that it waits.
func TestDeferred(t *testing.T) {
	r := newRig(t, "")
	m := proc.Go(r.p, func(p *proc.Proc) int {
		p.Hold(4)
		defer p.Drop(4)
		defer p.Close(0)
		b, _ := p.Read(0, 1)
		p.Write(1, b)
		b, _ = p.Read(0, 1)
		p.Write(1, b)
		return 6
	})
	for n := range 4 {
		step(t, m, n+1, false, 0)
		same(t, "Held", m.Held(), 4)
	}
	step(t, m, 5, true, 6)
	r.said("ab", "")
	same(t, "Peak", m.Peak(), 4)
}

// A main that recovers from whatever comes can't hold up what it is left by.
func TestMainThatRecovers(t *testing.T) {
	r := newRig(t, "")
	m := proc.Go(r.p, func(p *proc.Proc) int {
		guarded := func() {
			defer func() { recover() }()
			p.Write(1, []byte("a"))
		}
		guarded()
		guarded()
		p.Hold(2)
		p.Write(2, []byte("b"))
		return 3
	})
	same(t, "Held", m.Held(), 0)
	step(t, m, 1, false, 0)
	same(t, "Held", m.Held(), 0)
	step(t, m, 2, false, 0)
	same(t, "Held", m.Held(), 2)
	step(t, m, 3, true, 3)
	r.said("aa", "b")

	r = newRig(t, "")
	m = proc.Go(r.p, func(p *proc.Proc) int {
		defer func() { recover() }()
		p.Write(1, []byte("a"))
		return 3
	})
	stands(t, m, 0, false, 0)
	step(t, m, 1, true, 3)
	r.said("a", "")
}

// A main that panics for itself has ended; whoever steps it is not bothered.
func TestMainThatPanics(t *testing.T) {
	fails := func(p *proc.Proc) int {
		b, _ := p.Read(0, 1)
		return int(b[len(b)])
	}
	r := newRig(t, "")
	m := proc.Go(r.p, fails)
	step(t, m, 1, true, 137)
	fds(t, r.p.Table())
	same(t, "status", run(t, job("x"), fails).Status, 137)
	r = newRig(t, "")
	stands(t, proc.Go(r.p, func(*proc.Proc) int { panic("of its own") }), 0, true, 137)
}

// P4.4

func TestHoldAndDrop(t *testing.T) {
	r := newRig(t, "")
	p := r.p
	m := proc.Go(p, func(p *proc.Proc) int {
		p.Close(0)
		p.Hold(5)
		p.Hold(0)
		p.Hold(-3)
		p.Hold(math.MinInt)
		p.Close(0)
		p.Drop(2)
		p.Drop(0)
		p.Drop(-4)
		p.Drop(math.MinInt)
		p.Close(0)
		p.Drop(4)
		p.Close(0)
		p.Hold(2)
		p.Hold(2)
		p.Drop(1)
		p.Close(0)
		p.Hold(9)
		return 0
	})
	for n, want := range [][2]int{{0, 0}, {5, 5}, {3, 5}, {0, 5}, {3, 5}, {0, 12}} {
		same(t, "Held and Peak", [2]int{m.Held(), m.Peak()}, want)
		if n < 5 {
			step(t, m, n+1, n == 4, 0)
		}
	}
}

func TestHoldAheadOfTheFirstCall(t *testing.T) {
	r := newRig(t, "")
	m := proc.Go(r.p, func(p *proc.Proc) int {
		p.Hold(5)
		p.Drop(1)
		p.Close(0)
		p.Close(1)
		return 0
	})
	for n := range 2 {
		same(t, "Held and Peak", [2]int{m.Held(), m.Peak()}, [2]int{4, 5})
		step(t, m, n+1, n == 1, 0)
	}
	same(t, "Held and Peak", [2]int{m.Held(), m.Peak()}, [2]int{0, 5})
}

func TestHoldMoreThanCanBeTold(t *testing.T) {
	r := newRig(t, "")
	m := proc.Go(r.p, func(p *proc.Proc) int {
		p.Hold(math.MaxInt)
		p.Hold(math.MaxInt)
		p.Close(0)
		p.Drop(math.MaxInt)
		p.Drop(math.MaxInt)
		p.Close(0)
		return 0
	})
	same(t, "Held and Peak", [2]int{m.Held(), m.Peak()}, [2]int{math.MaxInt, math.MaxInt})
	m.Step()
	same(t, "Held and Peak", [2]int{m.Held(), m.Peak()}, [2]int{0, math.MaxInt})
}
