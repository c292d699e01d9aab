package proc_test

import (
	"math"
	"math/rand"
	"slices"
	"strings"
	"testing"

	"toolchest/api"
	"toolchest/proc"
)

// P4.5

func copies(n int) api.Act { return api.Act{Kind: api.ActCopy, N: n} }

func tells(b string) api.Act { return api.Act{Kind: api.ActOut, B: []byte(b)} }

func says(b string) api.Act { return api.Act{Kind: api.ActErr, B: []byte(b)} }

func holds(n int) api.Act { return api.Act{Kind: api.ActHold, N: n} }

func drops(n int) api.Act { return api.Act{Kind: api.ActDrop, N: n} }

func ends(n int) api.Act { return api.Act{Kind: api.ActEnd, N: n} }

func faults(kinds ...int) []api.Fault {
	var l []api.Fault
	for _, kind := range kinds {
		l = append(l, api.Fault{Kind: kind, N: 1})
	}
	return l
}

func TestActs(t *testing.T) {
	const intr, short, none = api.FaultIntr, api.FaultShort, api.FaultNone
	for _, c := range []struct {
		what      string
		in        string
		acts      []api.Act
		faults    []api.Fault
		out, errs string
		status    int
		steps     int
		peak      int
		used      int
	}{
		{"the chapter's example", "abcd", []api.Act{copies(3), says("x"), holds(5), ends(7)}, nil, "abc", "x", 7, 3, 5, 0},
		{"with faults", "abcd", []api.Act{copies(3), says("x"), holds(5), ends(7)}, faults(intr, short), "a", "x", 7, 4, 5, 2},
		{"none", "abcd", nil, nil, "", "", 0, 0, 0, 0},
		{"each kind", "abcd", []api.Act{copies(2), tells("T"), says("S"), holds(4), drops(1), holds(3), copies(9), ends(3), tells("no")}, nil, "abTcd", "S", 3, 6, 6, 0},
		{"behind the last one", "", []api.Act{tells("a")}, nil, "a", "", 0, 1, 0, 0},
		{"a copy at the end", "", []api.Act{copies(2), copies(1)}, nil, "", "", 0, 2, 0, 0},
		{"a copy of less than it might", "ab", []api.Act{copies(9), copies(9)}, nil, "ab", "", 0, 3, 0, 0},
		{"a copy of 1", "ab", []api.Act{copies(1)}, nil, "a", "", 0, 2, 0, 0},
		{"a copy of 0", "ab", []api.Act{copies(0)}, nil, "a", "", 0, 2, 0, 0},
		{"a copy below 0", "ab", []api.Act{copies(-7), copies(math.MinInt)}, nil, "ab", "", 0, 4, 0, 0},
		{"a copy of all", "ab", []api.Act{copies(math.MaxInt)}, nil, "ab", "", 0, 2, 0, 0},
		{"nothing to write", "", []api.Act{tells(""), says("")}, nil, "", "", 0, 0, 0, 0},
		{"kinds that there are not", "ab", []api.Act{{Kind: 0, N: 1, B: []byte("x")}, {Kind: 7, N: 1, B: []byte("x")}, {Kind: -1}, {Kind: math.MaxInt}, tells("q")}, nil, "q", "", 0, 1, 0, 0},
		{"held below 0", "", []api.Act{holds(2), drops(5), holds(-9), drops(-9), holds(1)}, nil, "", "", 0, 0, 2, 0},
		{"writes cut short", "", []api.Act{tells("abc"), says("de")}, faults(short, short, short, short), "abc", "de", 0, 5, 0, 4},
		{"a copy's write cut short", "abc", []api.Act{copies(3)}, faults(none, short, short), "abc", "", 0, 4, 0, 3},
		{"interrupted everywhere", "ab", []api.Act{copies(2), tells("c"), says("d")}, faults(intr, intr, none, intr, none, intr, none, intr), "abc", "d", 0, 9, 0, 8},
		{"an error of a copy's read", "ab", []api.Act{copies(2), tells("no")}, faults(api.FaultIO), "", "", 1, 1, 0, 1},
		{"an error of a copy's write", "ab", []api.Act{copies(2), tells("no")}, faults(none, api.FaultPipe), "", "", 1, 2, 0, 2},
		{"an error of a copy's second write", "ab", []api.Act{copies(2), tells("no")}, faults(none, short, api.FaultSpace), "a", "", 1, 3, 0, 3},
		{"an error of a write to 1", "", []api.Act{says("s"), tells("ab"), says("no")}, faults(none, short, api.FaultSpace), "a", "s", 1, 3, 0, 3},
		{"an error of a write to 2", "", []api.Act{tells("a"), says("s"), tells("no")}, faults(none, api.FaultIO), "a", "", 1, 2, 0, 2},
		{"an error behind an interruption", "", []api.Act{tells("a"), holds(3)}, faults(intr, api.FaultPipe), "", "", 1, 2, 0, 2},
	} {
		j := job(c.in)
		j.Faults = c.faults
		r, is := proc.RunActs(j, c.acts)
		want := api.Result{Out: r.Out, Err: r.Err, Status: c.status, Nodes: r.Nodes, Steps: c.steps, Peak: c.peak, Used: c.used}
		if !is || string(r.Out) != c.out || string(r.Err) != c.errs {
			t.Errorf("%s: %v, told %q, said %q", c.what, is, r.Out, r.Err)
		}
		same(t, c.what, r, want)
	}
}

func TestActEnd(t *testing.T) {
	for n, want := range map[int]int{
		0: 0, 1: 1, 255: 255, 256: 0, 257: 1, 1000: 232,
		-1: 255, -255: 1, -256: 0, -257: 255, math.MaxInt: 255, math.MinInt: 0,
	} {
		r, _ := proc.RunActs(job(""), []api.Act{ends(n), tells("no")})
		told(t, r, "", want)
	}
}

// Errors that no fault makes end it, too.
func TestActsWithoutDescriptors(t *testing.T) {
	for _, a := range []api.Act{copies(1), tells("x"), says("x")} {
		m := proc.Acts(proc.New(newKern(t), []string{"u"}, nil, "", limits), []api.Act{a, ends(4)})
		finish(t, m, 1, 1)
	}
	r := newRig(t, "")
	r.p.Table().Put(1, r.k.Source(nil))
	finish(t, proc.Acts(r.p, []api.Act{copies(1), ends(4)}), 2, 1)
}

// An act waits as any call does.
func TestActsWait(t *testing.T) {
	r := newRig(t, "")
	from, to := r.k.Pipe()
	r.p.Table().Put(0, from)
	other := r.k.Table()
	other.Put(0, to)
	m := proc.Acts(r.p, []api.Act{holds(2), copies(5), holds(1), copies(5), ends(9)})
	step(t, m, 1, false, 0)
	step(t, m, 2, false, 0)
	same(t, "Held", m.Held(), 2)
	other.Write(0, []byte("xy"))
	step(t, m, 3, false, 0)
	step(t, m, 4, false, 0)
	same(t, "Held", m.Held(), 3)
	r.said("xy", "")
	other.Free()
	step(t, m, 5, true, 9)
}

func TestActsAreNotShared(t *testing.T) {
	r := newRig(t, "")
	b := []byte("good, spare")
	l := []api.Act{says("s"), {Kind: api.ActOut, B: b[:4]}, ends(3)}
	m := proc.Acts(r.p, l)
	copy(b, "evil")
	l[0], l[2] = tells("x"), ends(5)
	finish(t, m, 2, 3)
	r.said("good", "s")
	same(t, "what was handed in", string(b), "evil, spare")
}

// P4.8

func randomActs(rnd *rand.Rand) []api.Act {
	var l []api.Act
	for range rnd.Intn(7) {
		b := strings.Repeat(string(rune('a'+rnd.Intn(26))), rnd.Intn(5)) + "."
		l = append(l, []api.Act{tells(b), tells(""), says(b), holds(rnd.Intn(9)), drops(rnd.Intn(9)), {Kind: 9, B: []byte(b)}}[rnd.Intn(6)])
	}
	if rnd.Intn(3) == 0 {
		l = slices.Insert(l, rnd.Intn(len(l)+1), ends(rnd.Intn(600)-300))
	}
	return l
}

// Mild faults change nothing that acts without ActCopy come to; they cost a step each, at most.
func TestMildFaults(t *testing.T) {
	rnd := rand.New(rand.NewSource(48))
	befell := 0
	for range 3000 {
		l := randomActs(rnd)
		j := job("in")
		pure, _ := proc.RunActs(j, l)
		for range rnd.Intn(12) {
			kind := []int{api.FaultShort, api.FaultIntr}[rnd.Intn(2)]
			j.Faults = append(j.Faults, api.Fault{Kind: kind, N: rnd.Intn(6) - 1})
		}
		r, is := proc.RunActs(j, l)
		if !is || r.Steps > pure.Steps+r.Used {
			t.Fatalf("%v, %d steps of %v with %v, %d without", is, r.Steps, l, j.Faults, pure.Steps)
		}
		befell += r.Used
		r.Steps, r.Used = pure.Steps, 0
		same(t, "what came of it", r, pure)
	}
	if befell < 1000 {
		t.Errorf("only %d faults befell a transfer", befell)
	}
}
