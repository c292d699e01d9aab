package proc

import (
	"slices"

	"toolchest/api"
)

// kin are all processes that came from one, by Spawn, and whose turn it is among them.
type kin struct {
	born  []*child // the one with the number n at n - 1
	alive []*child // those that had not ended yet, in the order of their numbers
	picks []int    // that are not used up
	last  int      // the number of the one that was stepped last
}

type child struct {
	number  int
	parent  *Proc
	machine *Machine
}

// add gives a process the next number.
func (k *kin) add(parent *Proc, m *Machine) int {
	c := &child{number: len(k.born) + 1, parent: parent, machine: m}
	k.born = append(k.born, c)
	k.alive = append(k.alive, c)
	return c.number
}

// of is what runs the child of a process, by its number; nil, if it has no such child.
func (k *kin) of(parent *Proc, number int) *Machine {
	if number < 1 || number > len(k.born) || k.born[number-1].parent != parent {
		return nil
	}
	return k.born[number-1].machine
}

// turn lets the one whose turn it is do a step.
func (k *kin) turn() {
	k.alive = slices.DeleteFunc(k.alive, func(c *child) bool { return c.machine.Done() })
	if len(k.alive) == 0 {
		return
	}
	c := k.alive[k.place()]
	k.last = c.number
	c.machine.Step()
}

// place is where, among those that have not ended, the one stands whose turn it is.
func (k *kin) place() int {
	if len(k.picks) > 0 {
		pick := k.picks[0]
		k.picks = k.picks[1:]
		return max(pick, 0) % len(k.alive)
	}
	behind := slices.IndexFunc(k.alive, func(c *child) bool { return c.number > k.last })
	return max(behind, 0)
}

// In lets a box start its children; Spawn starts one, Wait waits till it has ended: its status.
func (p *Proc) In(b Box) {
	if p.counts() {
		p.box = b
	}
}

func (p *Proc) Spawn(args, env []string, cwd string, moves []api.Move) (int, api.Errno) {
	a := p.retold()
	if a == nil {
		args, env, moves := slices.Clone(args), slices.Clone(env), slices.Clone(moves) // a later step starts it
		a = p.ask(func() *answer { return p.bear(args, env, cwd, moves) })
	}
	return a.number, a.err
}

func (p *Proc) bear(args, env []string, cwd string, moves []api.Move) *answer {
	if p.box == nil || len(args) == 0 {
		return &answer{err: api.ErrFound}
	}
	c := New(p.kern, args, env, cwd, p.lim)
	c.table = p.table.Fork()
	c.box, c.kin, c.isChild = p.box, p.kin, true
	for _, move := range moves {
		c.move(move)
	}
	m := p.box.Start(c)
	if m == nil {
		c.table.Free()
		return &answer{err: api.ErrFound}
	}
	return &answer{number: p.kin.add(p, m)}
}

// move changes one descriptor; what can't be is passed over.
func (p *Proc) move(m api.Move) {
	if m.From < 0 {
		p.table.Close(m.To)
		return
	}
	p.table.Dup(m.From, m.To)
}

func (p *Proc) Wait(child int) (int, api.Errno) {
	a := p.ask(func() *answer { return p.ended(child) })
	return a.number, a.err
}

func (p *Proc) ended(number int) *answer {
	m := p.kin.of(p, number)
	switch {
	case m == nil:
		return &answer{err: api.ErrInval}
	case !m.Done():
		return &answer{err: api.ErrAgain}
	}
	return &answer{number: m.Status()}
}
