package grep

import (
	"strings"

	"toolchest/api"
	"toolchest/opt"
	"toolchest/regex"
	"toolchest/task"
)

const feed = "\n"

// patterns are what is looked for: expressions, which are made as soon as their texts are read, so that the bytes of FILES need not be held.
type patterns struct {
	read  func(s string) (*regex.Re, api.Errno)
	all   []*regex.Re
	wrong string    // the first text that may not be one
	err   api.Errno // why it may not be
}

// expression is that of the patterns that options name; false: a FILE has failed, or else a pattern may not be, and that was said.
func expression(t *task.Task, opts []api.Opt) (*regex.Re, bool) {
	l := patterns{read: reader(t.Opts)}
	switch {
	case !l.gather(t, opts):
		return nil, false
	case l.err != api.OK:
		t.Fail(l.wrong, l.err)
		return nil, false
	case opt.Has(t.Opts, 'x'):
		return regex.Whole(regex.Any(l.all)), true
	}
	return regex.Any(l.all), true
}

// add reads texts, none behind one that may not be.
func (l *patterns) add(texts ...string) {
	for _, s := range texts {
		if l.err != api.OK {
			return
		}
		r, e := l.read(s)
		if e != api.OK {
			l.wrong, l.err = s, e
			return
		}
		l.all = append(l.all, r)
	}
}

// gather adds those that options name, in order; false: a FILE has failed, and that was said.
func (l *patterns) gather(t *task.Task, opts []api.Opt) bool {
	for _, o := range opts {
		switch o.Letter {
		case 'e':
			l.add(strings.Split(o.Arg, feed)...)
		case 'f':
			if !l.addLines(t.Open(o.Arg)) {
				return false
			}
		}
	}
	return true
}

// addLines adds the lines of a FILE, and closes it; false: it has failed.
func (l *patterns) addLines(in *task.Input) bool {
	for line := range in.Lines() {
		l.add(string(line))
	}
	in.Close()
	return !in.Failed()
}

// reader is what reads a pattern, as options ask for it.
func reader(opts []api.Opt) func(s string) (*regex.Re, api.Errno) {
	isLiteral, ext, fold := opt.Has(opts, 'F'), opt.Has(opts, 'E'), opt.Has(opts, 'i')
	return func(s string) (*regex.Re, api.Errno) {
		if isLiteral || s == "" { // an extended expression without bytes may not be, a pattern may
			return regex.Literal(s, fold), api.OK
		}
		return regex.Parse(s, ext, fold)
	}
}
