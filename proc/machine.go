package proc

import "toolchest/api"

// Statuses of processes that go on no more.
const (
	statusKilled = 137
	statusPipe   = 141
)

// Machine is a process that is run, step by step. Between two steps nothing of main is kept but the answers that its calls had: with each step main is gone through anew, from its beginning on, up to the first call that has no answer yet.
type Machine struct {
	proc   *Proc
	main   func(*Proc) int
	past   []*answer // of the calls that are done, in order
	told   int       // how many of these main was told, this time
	next   call      // at which main waits
	atOnce bool      // Run runs it
	steps  int
	done   bool
	status int
}

// waits is what main is left by at a call that has no answer yet.
type waits struct{}

// Go runs a process by what it does.
func Go(p *Proc, main func(*Proc) int) *Machine {
	m := &Machine{proc: p, main: main}
	m.goOn()
	return m
}

// goOn goes through main, up to the call at which it waits, or to its end. A main that panics for itself goes on no more, as if it were killed.
func (m *Machine) goOn() {
	before := m.proc.runs
	m.proc.runs, m.told = m, 0
	defer func() {
		m.proc.runs = before
		if recover() != nil && !m.isLeft() {
			m.Kill()
		}
	}()
	if status := m.main(m.proc); !m.isLeft() {
		m.end(status)
	}
}

// isLeft says that main is being left, or has been: what it does yet (deferred functions, perhaps, or whoever recovers within it) is not done.
func (m *Machine) isLeft() bool { return m.next != nil || m.done }

// ask answers a call of main.
func (m *Machine) ask(do call) *answer {
	if a := m.retold(); a != nil {
		return a
	}
	// Nobody looks on between two steps of what Run runs, so its main need not be left there.
	for m.atOnce && !m.isLeft() {
		if a, ok := m.try(do); ok {
			return a
		}
	}
	if !m.isLeft() {
		m.next = do
	}
	panic(waits{})
}

// retold is the next one of the answers that main was told before; nil, if there is none left.
func (m *Machine) retold() *answer {
	if m.told >= len(m.past) {
		return nil
	}
	m.told++
	return m.past[m.told-1]
}

// try does a call with a step; false: main is not told what it was answered.
func (m *Machine) try(do call) (*answer, bool) {
	m.steps++
	a := do()
	switch {
	case a.err == api.ErrAgain:
		if m.atOnce {
			m.proc.kin.turn()
		}
		return nil, false
	case a.err == api.ErrPipe && m.proc.isChild:
		m.end(statusPipe)
	}
	return a, !m.done
}

func (m *Machine) end(status int) {
	m.done, m.status = true, status
	m.main, m.past, m.next = nil, nil, nil
	m.proc.table.Free()
}

// Step does a step: true, when it has ended; Status is with what, Steps how many there were.
func (m *Machine) Step() bool {
	if m.done {
		return true
	}
	if a, ok := m.try(m.next); ok {
		m.past = append(m.past, a)
		m.next = nil
		m.goOn()
	}
	return m.done
}

func (m *Machine) Done() bool { return m.done }

func (m *Machine) Status() int { return m.status }

func (m *Machine) Steps() int { return m.steps }

// Held is how many bytes it holds, Peak how many it has held at most; Kill ends it.
func (m *Machine) Held() int {
	if m.done {
		return 0
	}
	return m.proc.held
}

func (m *Machine) Peak() int { return m.proc.peak }

func (m *Machine) Kill() {
	if !m.done {
		m.end(statusKilled)
	}
}
