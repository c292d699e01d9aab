package names

import (
	"toolchest/api"
	"toolchest/task"
)

// printer goes through a FORMAT's parts, and puts together what is told.
type printer struct {
	args  []string // that are left
	text  []byte
	ended bool             // nothing more is told
	wrong func(arg string) // is called with an argument that is no number
}

// part puts what a part of a FORMAT tells behind what is told ahead of it.
type part func(p *printer)

func printf(t *task.Task) {
	if len(t.Operands) == 0 {
		t.Refuse()
		return
	}
	parts, ok := readFormat(t.Operands[0])
	if !ok {
		t.Refuse()
		return
	}
	p := printer{
		args:  t.Operands[1:],
		wrong: func(arg string) { t.Fail(arg, api.ErrNumber) },
	}
	p.goThrough(parts)
	t.Tell(p.text)
}

// goThrough goes through the parts once, and anew as long as arguments are left and some were taken.
func (p *printer) goThrough(parts []part) {
	for {
		left := len(p.args)
		for _, put := range parts {
			put(p)
			if p.ended {
				return
			}
		}
		if len(p.args) == 0 || len(p.args) == left {
			return
		}
	}
}

func (p *printer) put(s string) { p.text = append(p.text, s...) }

// next is the next argument; where none is left, it is empty.
func (p *printer) next() string {
	if len(p.args) == 0 {
		return ""
	}
	arg := p.args[0]
	p.args = p.args[1:]
	return arg
}

// number is that of the next argument; of one that is none 0.
func (p *printer) number() int64 {
	arg := p.next()
	n, ok := readNumber(arg)
	if !ok {
		p.wrong(arg)
	}
	return n
}
