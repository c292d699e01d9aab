package proc

import (
	"slices"

	"toolchest/api"
	"toolchest/kern"
	"toolchest/tree"
)

// greatest is the greatest limit, and the latest tick, that a job may have.
const greatest = 1 << 40

// Run runs a job to its end, by what starts its machine; false: it may not be, or nothing starts.
func Run(j api.Job, start func(*Proc) *Machine) (api.Result, bool) {
	t, ok := treeOf(j)
	if !ok {
		return api.Result{}, false
	}
	k := kern.New(t, j.Faults, j.Now)
	p := New(k, j.Args, j.Env, j.Cwd, j.Lim)
	p.kin.picks = slices.Clone(j.Picks)
	in, out, errs := k.Source(j.In), k.Sink(), k.Sink()
	for fd, thing := range []int{in, out, errs} {
		p.table.Put(fd, thing)
	}
	m := start(p)
	if m == nil {
		return api.Result{}, false
	}
	m.atOnce = true
	for !m.Step() {
	}
	return api.Result{
		Out:    k.Said(out),
		Err:    k.Said(errs),
		Status: m.Status(),
		Nodes:  t.Dump(),
		Steps:  m.Steps(),
		Peak:   m.Peak(),
		Used:   k.Used(),
	}, true
}

// treeOf is the tree of a job; false, if the job may not be.
func treeOf(j api.Job) (*tree.Tree, bool) {
	if len(j.Args) == 0 || !areLimits(j.Lim) || j.Now < 0 || j.Now > greatest {
		return nil, false
	}
	t, e := tree.Load(j.Nodes)
	if e != api.OK {
		return nil, false
	}
	if _, e := t.Stat(j.Cwd, "."); e != api.OK { // of whatever is no directory this tells an error
		return nil, false
	}
	return t, true
}

func areLimits(l api.Limits) bool {
	for _, n := range []int{l.Buf, l.Line, l.Run} {
		if n < 1 || n > greatest {
			return false
		}
	}
	return l.Run >= l.Line
}

// RunActs runs a job that does these acts.
func RunActs(j api.Job, l []api.Act) (api.Result, bool) {
	return Run(j, func(p *Proc) *Machine { return Acts(p, l) })
}
