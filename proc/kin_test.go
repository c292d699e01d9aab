package proc_test

import (
	"math"
	"math/rand"
	"strconv"
	"strings"
	"testing"

	"toolchest/api"
	"toolchest/proc"
)

// P4.7

// box starts utilities that are told by a list; it keeps what it has started.
type box struct {
	mains   map[string]func(*proc.Proc) int
	look    func(*proc.Proc) // at what is to be started
	started []*proc.Machine
}

func (b *box) Start(p *proc.Proc) *proc.Machine {
	if b.look != nil {
		b.look(p)
	}
	main := b.mains[p.Args()[0]]
	if main == nil {
		return nil
	}
	m := proc.Go(p, main)
	b.started = append(b.started, m)
	return m
}

// newBox has `say`, which writes its second argument byte by byte and ends with how many these were, `quiet`, which makes no call and ends with 9, and others.
func newBox(mains map[string]func(*proc.Proc) int) *box {
	b := &box{mains: map[string]func(*proc.Proc) int{
		"quiet": func(*proc.Proc) int { return 9 },
		"say": func(p *proc.Proc) int {
			text := p.Args()[1]
			for _, c := range []byte(text) {
				p.Write(1, []byte{c})
			}
			return len(text)
		},
	}}
	for name, main := range mains {
		b.mains[name] = main
	}
	return b
}

func spawn(p *proc.Proc, args ...string) int {
	n, e := p.Spawn(args, nil, "", nil)
	if e != api.OK {
		return -int(e)
	}
	return n
}

// await is a child's status, or the error of Wait below 0.
func await(p *proc.Proc, child int) int {
	status, e := p.Wait(child)
	if e != api.OK {
		return -int(e)
	}
	return status
}

func TestSpawnThatFails(t *testing.T) {
	for _, c := range []struct {
		what string
		box  bool
		args []string
	}{
		{"no box", false, []string{"quiet"}},
		{"no arguments", true, nil},
		{"neither", false, nil},
		{"a name that is not there", true, []string{"nothing"}},
	} {
		r := run(t, job(""), func(p *proc.Proc) int {
			if c.box {
				p.In(newBox(nil))
			}
			from, to, _ := p.Pipe()
			n, e := p.Spawn(c.args, nil, "", nil)
			same(t, c.what, n, 0)
			is(t, c.what, e, api.ErrFound)
			_, e = p.Wait(1)
			is(t, "Wait", e, api.ErrInval)
			// The end that would be open yet in a table that was not freed would let the Read wait for ever.
			p.Close(to)
			b, e := p.Read(from, 1)
			same(t, "Read", len(b), 0)
			is(t, "Read", e, api.OK)
			p.In(newBox(nil))
			return spawn(p, "quiet")
		})
		told(t, r, "", 1)
		same(t, c.what, r.Steps, 6)
	}
}

// What a child is told, and what of its parent it has.
func TestWhatAChildIs(t *testing.T) {
	check := func(p *proc.Proc) int {
		same(t, "Args", p.Args(), []string{"check", "", "b"})
		same(t, "Env", p.Env(), []string{"K=v"})
		same(t, "Cwd", p.Cwd(), "/no")
		same(t, "Lim", p.Lim(), limits)
		p.Close(0)
		p.Write(1, []byte("child"))
		return 4
	}
	b := newBox(map[string]func(*proc.Proc) int{"check": check})
	b.look = func(p *proc.Proc) { fds(t, p.Table(), 0, 1, 2) }
	j := job("rest")
	j.Env, j.Cwd = []string{"A=1"}, "/d"
	r := run(t, j, func(p *proc.Proc) int {
		p.In(b)
		n, e := p.Spawn([]string{"check", "", "b"}, []string{"K=v"}, "/no", nil)
		is(t, "Spawn", e, api.OK)
		same(t, "Spawn", n, 1)
		status := await(p, 1)
		in, _ := p.Read(0, 9)
		p.Write(1, in)
		fds(t, p.Table(), 0, 1, 2)
		return status
	})
	told(t, r, "childrest", 4)
}

func TestAChildInTheSameKernel(t *testing.T) {
	var k, ofChild any
	b := newBox(map[string]func(*proc.Proc) int{"look": func(p *proc.Proc) int {
		ofChild = p.Kern()
		return 0
	}})
	run(t, job(""), func(p *proc.Proc) int {
		k = p.Kern()
		p.In(b)
		return spawn(p, "look")
	})
	if k == nil || k != ofChild {
		t.Error("a child has another kernel")
	}
}

func TestMoves(t *testing.T) {
	for _, c := range []struct {
		what  string
		moves []api.Move
		fds   []int
		one   string // where what it writes to 1 goes
	}{
		{"none", nil, []int{0, 1, 2}, "out"},
		{"1 is what 2 is", []api.Move{{From: 2, To: 1}}, []int{0, 1, 2}, "err"},
		{"0 is closed", []api.Move{{From: -1, To: 0}}, []int{1, 2}, "out"},
		{"all are closed", []api.Move{{From: -1, To: 0}, {From: math.MinInt, To: 1}, {From: -2, To: 2}}, nil, ""},
		{"in order: 1 is kept", []api.Move{{From: 1, To: 5}, {From: -1, To: 1}, {From: 5, To: 1}}, []int{0, 1, 2, 5}, "out"},
		{"in order: 1 and 2 change places", []api.Move{{From: 1, To: 9}, {From: 2, To: 1}, {From: 9, To: 2}, {From: -1, To: 9}}, []int{0, 1, 2}, "err"},
		{"0 is what another one is, too", []api.Move{{From: 0, To: 5}}, []int{0, 1, 2, 5}, "out"},
		{"onto itself", []api.Move{{From: 1, To: 1}}, []int{0, 1, 2}, "out"},
		{"what can't be", []api.Move{
			{From: 7, To: 1}, {From: 16, To: 1}, {From: math.MaxInt, To: 1}, {From: 2, To: 16}, {From: 2, To: -1}, {From: 2, To: math.MinInt},
			{From: -1, To: 7}, {From: -1, To: 16}, {From: -1, To: -1}, {From: 1, To: 15},
		}, []int{0, 1, 2, 15}, "out"},
	} {
		b := newBox(map[string]func(*proc.Proc) int{"look": only(func(p *proc.Proc) { p.Write(1, []byte("x")) })})
		b.look = func(p *proc.Proc) { fds(t, p.Table(), c.fds...) }
		r := run(t, job(""), func(p *proc.Proc) int {
			p.In(b)
			n, e := p.Spawn([]string{"look"}, nil, "", c.moves)
			is(t, c.what, e, api.OK)
			fds(t, p.Table(), 0, 1, 2)
			return await(p, n)
		})
		at := map[string]string{string(r.Out): "out", string(r.Err): "err"}["x"]
		if at != c.one {
			t.Errorf("%s: told %q, said %q", c.what, r.Out, r.Err)
		}
	}
}

// Numbers are those of all processes of one Run; what was not started has none.
func TestNumbersOfChildren(t *testing.T) {
	b := newBox(map[string]func(*proc.Proc) int{"parent": func(p *proc.Proc) int {
		n := spawn(p, "quiet")
		return 10*n + await(p, n)
	}})
	r := run(t, job(""), func(p *proc.Proc) int {
		p.In(b)
		tell(p, spawn(p, "quiet"), spawn(p, "nothing"), spawn(p, "parent"), spawn(p, "parent"))
		tell(p, await(p, 2), await(p, 3), await(p, 1))
		tell(p, spawn(p, "quiet"))
		return 0
	})
	told(t, r, "1 -22 2 3 \n49 59 9 \n6 \n", 0)
	r = run(t, job(""), func(p *proc.Proc) int {
		p.In(b)
		return spawn(p, "quiet")
	})
	told(t, r, "", 1)
}

// From In on children are started by that box, and so are theirs.
func TestIn(t *testing.T) {
	one, two := newBox(nil), newBox(nil)
	one.mains["id"] = func(*proc.Proc) int { return 1 }
	two.mains["id"] = func(*proc.Proc) int { return 2 }
	nested := func(p *proc.Proc) int { return 10 + await(p, spawn(p, "id")) }
	one.mains["nested"], two.mains["nested"] = nested, nested
	one.mains["own"] = func(p *proc.Proc) int {
		p.In(two)
		return 20 + await(p, spawn(p, "id"))
	}
	main := func(p *proc.Proc) int {
		id := func(name string) int { return await(p, spawn(p, name)) }
		a := spawn(p, "id")
		p.In(one)
		b, c, d := id("id"), id("nested"), id("own")
		b += 100 * id("id")
		p.In(two)
		e, f := id("id"), id("nested")
		p.In(nil)
		tell(p, a, b, c, d, e, f, spawn(p, "id"))
		return 0
	}
	told(t, run(t, job(""), main), "-22 101 11 22 2 12 -22 \n", 0)

	r, _ := proc.Run(job(""), func(p *proc.Proc) *proc.Machine {
		p.In(two)
		return proc.Go(p, func(p *proc.Proc) int { return await(p, spawn(p, "id")) })
	})
	told(t, r, "", 2)
}

// What is behind the call at which main waits is not done yet, and what is ahead of it is done once.
func TestInBetweenSteps(t *testing.T) {
	one, two := newBox(nil), newBox(nil)
	one.mains["id"] = func(*proc.Proc) int { return 1 }
	two.mains["id"] = func(*proc.Proc) int { return 2 }
	r := newRig(t, "")
	m := proc.Go(r.p, func(p *proc.Proc) int {
		p.In(one)
		defer p.In(nil)
		a := spawn(p, "id")
		b := spawn(p, "id")
		return 10*await(p, a) + await(p, b)
	})
	step(t, m, 1, false, 0)
	r.p.In(two)
	finish := func(status int) {
		t.Helper()
		for m.Steps() < 4 {
			m.Step()
		}
		stands(t, m, 4, true, status)
	}
	finish(12)
}

func TestWait(t *testing.T) {
	b := newBox(map[string]func(*proc.Proc) int{
		"far":  func(p *proc.Proc) int { p.Close(9); return 300 },
		"self": func(p *proc.Proc) int { return await(p, 1) },
		"kin":  func(p *proc.Proc) int { return 100*await(p, 1) + await(p, 2) },
	})
	r := run(t, job(""), func(p *proc.Proc) int {
		p.In(b)
		tell(p, await(p, 1), await(p, 0), await(p, -1))
		a, b := spawn(p, "quiet"), spawn(p, "far")
		tell(p, await(p, a), await(p, b), await(p, a), await(p, b))
		tell(p, await(p, 0), await(p, 3), await(p, math.MaxInt), await(p, math.MinInt))
		return 0
	})
	told(t, r, "-16 -16 -16 \n9 300 9 300 \n-16 -16 -16 -16 \n", 0)

	// A process waits for children of its own alone.
	r = run(t, job(""), func(p *proc.Proc) int {
		p.In(b)
		return await(p, spawn(p, "self"))
	})
	told(t, r, "", -int(api.ErrInval))
	r = run(t, job(""), func(p *proc.Proc) int {
		p.In(b)
		spawn(p, "quiet")
		return await(p, spawn(p, "kin"))
	})
	told(t, r, "", -101*int(api.ErrInval))
}

// Each time that a Wait is not answered it takes a step, and the child whose turn it is does one.
func TestStepsOfAWait(t *testing.T) {
	for n := range 5 {
		r := run(t, job(""), func(p *proc.Proc) int {
			p.In(newBox(nil))
			p.Hold(2)
			return await(p, spawn(p, "say", strings.Repeat("x", n)))
		})
		told(t, r, strings.Repeat("x", n), n)
		same(t, "Steps", r.Steps, 1+n+1)
		same(t, "Peak", r.Peak, 2)
	}
}

// Without Run nobody steps children but who has their machines.
func TestChildrenWithoutRun(t *testing.T) {
	r := newRig(t, "")
	b := newBox(nil)
	r.p.In(b)
	m := proc.Go(r.p, func(p *proc.Proc) int { return await(p, spawn(p, "say", "ab")) })
	same(t, "started", len(b.started), 0)
	step(t, m, 1, false, 0)
	same(t, "started", len(b.started), 1)
	step(t, m, 2, false, 0)
	step(t, m, 3, false, 0)
	r.said("", "")
	finish(t, b.started[0], 2, 2)
	r.said("ab", "")
	step(t, m, 4, true, 2)

	r = newRig(t, "")
	b = newBox(nil)
	r.p.In(b)
	m = proc.Go(r.p, func(p *proc.Proc) int { return await(p, spawn(p, "say", "ab")) })
	m.Step()
	b.started[0].Kill()
	step(t, m, 2, true, 137)
}

// Children move only as long as the process that Run runs waits.
func TestChildrenMoveWhenTheirParentWaits(t *testing.T) {
	r := run(t, job(""), func(p *proc.Proc) int {
		p.In(newBox(nil))
		n := spawn(p, "say", "cc")
		writeText(p, 1, "a")
		spawn(p, "say", "d")
		writeText(p, 1, "b")
		await(p, n)
		writeText(p, 1, "e")
		spawn(p, "say", "never")
		writeText(p, 1, "f")
		return 0
	})
	told(t, r, "abcdcef", 0)
}

// A process that can do nothing till its child has read or written lets it do so.
func TestPipesToAndFromChildren(t *testing.T) {
	b := newBox(map[string]func(*proc.Proc) int{"double": func(p *proc.Proc) int {
		for {
			b, e := p.Read(0, 8)
			if e != api.OK || len(b) == 0 {
				return int(e)
			}
			writeText(p, 1, string(b)+string(b))
		}
	}})
	text := strings.Repeat("0123456789", 20)
	r := run(t, job(""), func(p *proc.Proc) int {
		p.In(b)
		from, to, _ := p.Pipe()
		n, _ := p.Spawn([]string{"double"}, nil, "", []api.Move{{From: from, To: 0}, {From: -1, To: from}, {From: -1, To: to}})
		p.Close(from)
		writeText(p, to, text)
		p.Close(to)
		return await(p, n)
	})
	same(t, "how much was told", len(r.Out), 2*len(text))
	same(t, "status", r.Status, 0)
}

// expected is what children tell that write a byte with each step, while they are waited for in order: whose turn it is, and how many steps their parent does.
func expected(texts []string, picks []int) (string, int) {
	var out []byte
	done := make([]int, len(texts))
	last, steps := -1, len(texts)
	for waited := range texts {
		for steps++; done[waited] < len(texts[waited]); steps++ {
			var alive []int
			for n := range texts {
				if done[n] < len(texts[n]) {
					alive = append(alive, n)
				}
			}
			next := alive[0]
			if len(picks) > 0 {
				if picks[0] >= 0 {
					next = alive[picks[0]%len(alive)]
				}
				picks = picks[1:]
			} else {
				for k := len(alive) - 1; k >= 0 && alive[k] > last; k-- {
					next = alive[k]
				}
			}
			last = next
			out = append(out, texts[next][done[next]])
			done[next]++
		}
	}
	return string(out), steps
}

func runTurns(t *testing.T, texts []string, picks []int) (string, int) {
	t.Helper()
	j := job("")
	j.Picks = picks
	r := run(t, j, func(p *proc.Proc) int {
		p.In(newBox(nil))
		for _, text := range texts {
			spawn(p, "say", text)
		}
		for n := range texts {
			await(p, n+1)
		}
		return 0
	})
	return string(r.Out), r.Steps
}

func TestWhoseTurnItIs(t *testing.T) {
	for _, c := range []struct {
		texts string
		picks []int
		out   string
	}{
		{"aaa", nil, "aaa"},
		{"aa bb cc", nil, "abcabc"},
		{"a bbb cc", nil, "abcbcb"},
		{"aaa bb c", []int{2, 1, 1}, "cbbaaa"},
		{"aa bb cc", []int{0, 0, 0, 0, 0, 0}, "aabbcc"},
		{"aa bb cc", []int{-1, -7, math.MinInt, 0}, "aabbcc"},
		{"aa bb cc", []int{3, 4, 5}, "abcabc"},
		{"aa bb cc", []int{300, math.MaxInt}, "abcabc"},
		{"aaa bbb ccc", []int{1}, "bcabcabca"},
		{"aaa bbb ccc", []int{2}, "cabcabcab"},
		{"aaaa b cccc", []int{1}, "bcacacaca"},
		{"aaaa bbb c", []int{2}, "cabababa"},
		{"aa  cc", []int{1}, "caca"},
	} {
		texts := strings.Split(c.texts, " ")
		picks := append([]int(nil), c.picks...)
		out, steps := runTurns(t, texts, picks)
		if out != c.out {
			t.Errorf("%q with %v: %q, not %q", c.texts, c.picks, out, c.out)
		}
		same(t, "Picks", picks, append([]int(nil), c.picks...))
		_, want := expected(texts, c.picks)
		same(t, "Steps", steps, want)
	}
}

func TestTurnsByChance(t *testing.T) {
	rnd := rand.New(rand.NewSource(47))
	for range 500 {
		var texts []string
		for n := range 1 + rnd.Intn(5) {
			texts = append(texts, strings.Repeat(strconv.Itoa(n), rnd.Intn(6)))
		}
		var picks []int
		for range rnd.Intn(12) {
			picks = append(picks, rnd.Intn(12)-2)
		}
		out, steps := runTurns(t, texts, picks)
		want, n := expected(texts, picks)
		if out != want || steps != n {
			t.Fatalf("%q with %v: %q in %d steps, not %q in %d", texts, picks, out, steps, want, n)
		}
	}
}

// Those that children start have their turns among all of one Run; a child that waits asks once more when its turn comes.
func TestTurnsOfGrandchildren(t *testing.T) {
	b := newBox(map[string]func(*proc.Proc) int{"parent": func(p *proc.Proc) int {
		n := spawn(p, "say", "ccc")
		writeText(p, 1, "p")
		await(p, n)
		writeText(p, 1, "q")
		return 0
	}})
	main := func(p *proc.Proc) int {
		p.In(b)
		spawn(p, "parent")
		spawn(p, "say", "bbbbb")
		await(p, 1)
		return 0
	}
	told(t, run(t, job(""), main), "bcpbcbcbq", 0)
	j := job("")
	j.Picks = []int{0, 2, 2, 2, 0, 0, 0, 1, 1, 1, 1, 1}
	told(t, run(t, j, main), "cccpq", 0)
}

// A child that writes where nobody reads goes on no more.
func TestAChildThatNobodyReads(t *testing.T) {
	b := newBox(map[string]func(*proc.Proc) int{"loud": func(p *proc.Proc) int {
		p.Hold(1)
		_, e := p.Write(3, []byte("x"))
		writeText(p, 1, "told of it")
		return int(e)
	}})
	r := run(t, job(""), func(p *proc.Proc) int {
		p.In(b)
		from, to, _ := p.Pipe()
		n, _ := p.Spawn([]string{"loud"}, nil, "", []api.Move{{From: to, To: 3}, {From: -1, To: to}})
		p.Close(from)
		p.Close(to)
		status := await(p, n)
		fds(t, p.Table(), 0, 1, 2)
		return status
	})
	told(t, r, "", 141)
	stands(t, b.started[0], 1, true, 141)
	same(t, "Held", b.started[0].Held(), 0)

	r = run(t, job("", api.Fault{Kind: api.FaultPipe}), func(p *proc.Proc) int {
		p.In(b)
		return await(p, spawn(p, "say", "abc"))
	})
	told(t, r, "", 141)
	same(t, "Used", r.Used, 1)

	// Other errors it is told, and so is the process that Run runs.
	r = run(t, job("", api.Fault{Kind: api.FaultIO}), func(p *proc.Proc) int {
		p.In(b)
		return await(p, spawn(p, "say", "abc"))
	})
	told(t, r, "bc", 3)
	r = run(t, job("", api.Fault{Kind: api.FaultPipe}), func(p *proc.Proc) int {
		_, e := p.Write(1, []byte("x"))
		return int(e)
	})
	told(t, r, "", int(api.ErrPipe))
}

// The descriptors of a child are closed when it has ended, however it did.
func TestTheEndOfAChildClosesPipes(t *testing.T) {
	b := newBox(nil)
	r := run(t, job(""), func(p *proc.Proc) int {
		p.In(b)
		from, to, _ := p.Pipe()
		n, _ := p.Spawn([]string{"say", "hey"}, nil, "", []api.Move{{From: to, To: 1}})
		p.Close(to)
		await(p, n)
		first, _ := p.Read(from, 9)
		rest, e := p.Read(from, 9)
		is(t, "Read", e, api.OK)
		same(t, "Read", len(rest), 0)
		p.Write(1, first)
		return 0
	})
	told(t, r, "hey", 0)
}

// What a child is started with is taken as it was when main came to the call, and is not kept by anybody.
func TestSpawnSharesNothing(t *testing.T) {
	b := newBox(map[string]func(*proc.Proc) int{"show": func(p *proc.Proc) int {
		p.Write(1, []byte(strings.Join(append(p.Args(), p.Env()...), ",")))
		return 0
	}})
	r := newRig(t, "")
	r.p.In(b)
	m := proc.Go(r.p, func(p *proc.Proc) int {
		args, env, moves := []string{"show", "a"}, []string{"E=e"}, []api.Move{{From: 2, To: 1}}
		defer func() { args[0], env[0], moves[0] = "nothing", "X=x", api.Move{From: -1, To: 1} }()
		spawned, e := p.Spawn(args, env, "", moves)
		is(t, "Spawn", e, api.OK)
		args[1], env[0] = "x", "X=x"
		return await(p, spawned)
	})
	m.Step()
	finish(t, b.started[0], 1, 0)
	step(t, m, 2, true, 0)
	r.said("", "show,a,E=e")
}

// What a child holds is not held by its parent.
func TestWhatChildrenHold(t *testing.T) {
	b := newBox(map[string]func(*proc.Proc) int{"hold": func(p *proc.Proc) int {
		p.Hold(50)
		p.Close(9)
		p.Close(9)
		return 0
	}})
	r := run(t, job(""), func(p *proc.Proc) int {
		p.In(b)
		p.Hold(7)
		return await(p, spawn(p, "hold"))
	})
	same(t, "Peak", r.Peak, 7)
	same(t, "Peak", b.started[0].Peak(), 50)
	same(t, "Steps", b.started[0].Steps(), 2)
}
