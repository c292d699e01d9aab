package proc

import (
	"bytes"

	"toolchest/api"
)

// deed is an act, as a process does it: with what it ends there, if it does.
type deed struct {
	do func(p *Proc) (status int, ends bool)
}

// Acts runs one that does these acts.
func Acts(p *Proc, l []api.Act) *Machine {
	deeds := make([]deed, 0, len(l))
	for _, a := range l {
		deeds = append(deeds, deedOf(a))
	}
	return Go(p, func(p *Proc) int {
		for _, d := range deeds {
			if status, ends := d.do(p); ends {
				return status
			}
		}
		return 0
	})
}

func deedOf(a api.Act) deed {
	n, b := a.N, bytes.Clone(a.B)
	switch a.Kind {
	case api.ActCopy:
		return deed{func(p *Proc) (int, bool) { return failed(copyOn(p, n)) }}
	case api.ActOut:
		return deed{func(p *Proc) (int, bool) { return failed(writeAll(p, 1, b)) }}
	case api.ActErr:
		return deed{func(p *Proc) (int, bool) { return failed(writeAll(p, 2, b)) }}
	case api.ActHold:
		return deed{func(p *Proc) (int, bool) { p.Hold(n); return 0, false }}
	case api.ActDrop:
		return deed{func(p *Proc) (int, bool) { p.Drop(n); return 0, false }}
	case api.ActEnd:
		return deed{func(*Proc) (int, bool) { return n & 255, true }}
	}
	return deed{func(*Proc) (int, bool) { return 0, false }}
}

// failed says that an error ends the process.
func failed(e api.Errno) (int, bool) {
	if e == api.OK {
		return 0, false
	}
	return 1, true
}

// copyOn reads once, and writes what came.
func copyOn(p *Proc, most int) api.Errno {
	for {
		b, e := p.Read(0, max(most, 1))
		switch e {
		case api.OK:
			return writeAll(p, 1, b)
		case api.ErrIntr:
			continue
		}
		return e
	}
}

func writeAll(p *Proc, fd int, b []byte) api.Errno {
	for len(b) > 0 {
		n, e := p.Write(fd, b)
		if e != api.OK && e != api.ErrIntr {
			return e
		}
		b = b[n:]
	}
	return api.OK
}
