package trans

import (
	"bytes"
	"slices"

	"toolchest/api"
	"toolchest/opt"
	"toolchest/task"
)

// fate is what becomes of a byte.
type fate struct {
	becomes byte
	isGone  bool // it is left out
	isOnce  bool // of several of what it becomes, one behind the other, the first one alone is told
}

// fates are those of all bytes.
type fates [256]fate

func tr(t *task.Task) {
	f, ok := fatesOf(t.Opts, t.Operands)
	if !ok {
		t.Refuse()
		return
	}
	change := changer(f)
	for in := range t.Read(nil) { // its operands are no inputs
		for b := range in.Chunks() {
			if !t.Tell(change(b)) {
				return
			}
		}
	}
}

// changer makes what tells of chunks, one behind the other, what becomes of their bytes. It knows the last byte that it told, which may be of an earlier chunk.
func changer(f fates) func(b []byte) []byte {
	last := -1
	return func(b []byte) []byte {
		var told []byte
		for _, c := range b {
			x := f[c]
			if x.isGone || x.isOnce && int(x.becomes) == last {
				continue
			}
			told = append(told, x.becomes)
			last = int(x.becomes)
		}
		return told
	}
}

// asked is what options and operands ask for.
type asked struct {
	translates bool
	deletes    bool
	squeezes   bool
	one, two   []byte // of one operand alone both are the first one
}

// fatesOf is what options and operands make of bytes; false: they may not be.
func fatesOf(opts []api.Opt, operands []string) (fates, bool) {
	a, ok := askedOf(opts, operands)
	if !ok {
		return fates{}, false
	}
	var f fates
	for c := range f {
		f[c].becomes = byte(c)
	}
	for i, c := range a.one {
		if a.translates {
			f[c].becomes = a.two[min(i, len(a.two)-1)]
		}
		f[c].isGone = a.deletes
	}
	isOfTwo := membersOf(a.two)
	for c := range f {
		f[c].isOnce = a.squeezes && isOfTwo[f[c].becomes]
	}
	return f, true
}

// askedOf reads options and operands; false: they may not be.
func askedOf(opts []api.Opt, operands []string) (asked, bool) {
	a := asked{deletes: opt.Has(opts, 'd'), squeezes: opt.Has(opts, 's')}
	if !a.takes(len(operands)) {
		return a, false
	}
	a.translates = !a.deletes && len(operands) == 2
	one, rest, ok := Set(operands[0])
	if !ok || rest != nowhere {
		return a, false
	}
	if opt.Has(opts, 'c') || opt.Has(opts, 'C') {
		one = othersOf(one)
	}
	a.one, a.two = one, one
	if len(operands) == 2 {
		two, rest, ok := Set(operands[1])
		if !ok {
			return a, false
		}
		a.two = filledUp(two, rest, len(one))
	}
	isWithoutAim := a.translates && len(a.one) > 0 && len(a.two) == 0
	return a, !isWithoutAim
}

// takes tells whether there may be so many operands.
func (a asked) takes(operands int) bool {
	switch operands {
	case 1:
		return a.deletes != a.squeezes
	case 2:
		return a.squeezes || !a.deletes
	}
	return false
}

// filledUp is a set in which the byte at rest stands as often as it takes for so many bytes; not at all, if there are enough without it.
func filledUp(set []byte, rest, length int) []byte {
	if rest == nowhere {
		return set
	}
	times := max(0, length-(len(set)-1))
	return slices.Replace(set, rest, rest+1, bytes.Repeat(set[rest:rest+1], times)...)
}

// othersOf are the bytes that a set lacks, rising.
func othersOf(set []byte) []byte {
	isMember := membersOf(set)
	return bytesOf(func(c byte) bool { return !isMember[c] })
}

// membersOf tells of each byte whether it is in a set.
func membersOf(set []byte) [256]bool {
	var is [256]bool
	for _, c := range set {
		is[c] = true
	}
	return is
}
