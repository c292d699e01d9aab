package sortkit_test

import (
	"regexp"
	"slices"
	"strings"
	"testing"

	"toolchest/api"
	"toolchest/proc"
)

// moment is how things stand ahead of a transfer, and what it is.
type moment struct {
	kind     string // "out", "err", "file", "spill", "read"
	name     string // of a spill file that is written
	out, err string // what was told and said
	nodes    []api.Node
}

// momentsOf are those of all transfers of a job, in order: faults that do nothing, behind those that it has, count them.
func momentsOf(t *testing.T, j api.Job) []moment {
	t.Helper()
	j.Faults = append(slices.Clone(j.Faults), make([]api.Fault, 10000)...)
	r := newRig(t, j)
	var all []moment
	var was moment
	var data map[string]string
	look := func(*proc.Machine) {
		now := map[string]string{}
		for _, n := range r.k.Tree().Dump() {
			now[n.Path] = string(n.Data)
		}
		if r.k.Used() > len(all) {
			was.kind, was.name = kindOf(r, was, data, now)
			all = append(all, was)
		}
		was = moment{out: string(r.k.Said(r.out)), err: string(r.k.Said(r.err)), nodes: withoutSpills(r.k.Tree().Dump())}
		data = now
	}
	r.result(look)
	look(nil)
	return all
}

// kindOf tells by what has grown what a transfer was.
func kindOf(r *rig, was moment, before, now map[string]string) (kind, name string) {
	if len(r.k.Said(r.out)) > len(was.out) {
		return "out", ""
	}
	if len(r.k.Said(r.err)) > len(was.err) {
		return "err", ""
	}
	for path, data := range now {
		switch {
		case len(data) <= len(before[path]):
		case strings.HasPrefix(path, "/.sort"):
			return "spill", path[1:]
		default:
			return "file", ""
		}
	}
	return "read", ""
}

// withoutSpills are nodes without spill files.
func withoutSpills(l []api.Node) []api.Node {
	return slices.DeleteFunc(slices.Clone(l), func(n api.Node) bool { return strings.HasPrefix(n.Path, "/.sort") })
}

// words are what is said of failures.
var words = map[string]string{"e": "input/output error", "s": "no space left", "p": "broken pipe"}

// A transfer that fails, each in turn: where all of them go well, are cut short, or also interrupted till then.
func TestFailuresAtEveryTransfer(t *testing.T) {
	kinds := map[string]int{}
	for _, args := range commands() {
		for _, l := range limitsOf() {
			for _, mild := range []string{".", "1", "i2"} {
				j := job(someLines, args)
				j.Lim = l
				j.Faults = faults(strings.Repeat(mild, 2000))
				all := momentsOf(t, j)
				for n, m := range all {
					if j.Faults[n].Kind == api.FaultIntr {
						continue // what it was is not to be seen
					}
					for sign, word := range words {
						bad := j
						bad.Faults = append(slices.Clone(j.Faults[:n]), faults(sign)...)
						fails(t, bad, m, word)
						kinds[m.kind]++
					}
				}
			}
		}
	}
	for _, kind := range []string{"out", "err", "file", "spill", "read"} {
		if kinds[kind] < 100 {
			t.Errorf("%d of the kind %s", kinds[kind], kind)
		}
	}
}

// fails fails, if something else comes of a job than the document lets come, when the transfer of a moment fails.
func fails(t *testing.T, j api.Job, m moment, word string) {
	t.Helper()
	all := pure(t, j)
	ended := api.Result{Out: []byte(m.out), Status: 2, Nodes: m.nodes}
	switch m.kind {
	case "out":
		ended.Err = []byte(m.err + "sort: standard output: " + word + "\n")
	case "file":
		ended.Err = []byte(m.err + "sort: " + askedOf(j.Args).file + ": " + word + "\n")
	case "spill":
		ended.Err = []byte(m.err + "sort: " + m.name + ": " + word + "\n")
	case "err": // the rest of that line is not said
		ended = all
		rest := string(all.Err[len(m.err):])
		ended.Err = []byte(m.err + rest[strings.IndexByte(rest, '\n')+1:])
	case "read":
		if word != words["e"] {
			ended = all // these do not befall a Read
			break
		}
		readFails(t, j, m)
		return
	}
	comesTo(t, j, ended)
}

var failure = regexp.MustCompile(`^sort: (.+): input/output error\n`)

// readFails is fails, of a Read: of a spill file, or of an input, behind some of its lines.
func readFails(t *testing.T, j api.Job, m moment) {
	t.Helper()
	got := run(t, j)
	within(t, j, got)
	said, ok := strings.CutPrefix(string(got.Err), m.err)
	parts := failure.FindStringSubmatch(said)
	if !ok || parts == nil {
		t.Errorf("%q, Lim %v, faults %v: said %q", j.Args, j.Lim, j.Faults, got.Err)
		return
	}
	if strings.HasPrefix(parts[1], ".sort") {
		want := api.Result{Out: []byte(m.out), Err: []byte(m.err + parts[0]), Status: 2, Nodes: m.nodes}
		comesTo(t, j, want)
		j.Faults = append(j.Faults, faults(".e")...) // nothing more is read or written but what is said
		comesTo(t, j, want)
		return
	}
	for n := range len(j.In) + 20 {
		want := (&model{asked: askedOf(j.Args), job: j, bad: parts[1], read: n}).result()
		if string(want.Out) == string(got.Out) && string(want.Err) == string(got.Err) && want.Status == got.Status && areSame(got.Nodes, dumped(t, want.Nodes)) {
			return
		}
	}
	t.Errorf("%q, Lim %v, faults %v: told %q, said %q, %d, the tree %v: of no beginning of an input", j.Args, j.Lim, j.Faults, got.Out, got.Err, got.Status, got.Nodes)
}
