package match_test

import (
	"bytes"
	"fmt"
	"math/bits"
	"testing"
	"time"

	"toolchest/api"
	"toolchest/match"
	"toolchest/regex"
)

// how is by which rules a text is read.
type how struct{ ext, fold bool }

var (
	basic        = how{false, false}
	basicFold    = how{false, true}
	extended     = how{true, false}
	extendedFold = how{true, true}
)

// re is the expression of a text that may be.
func (h how) re(t *testing.T, s string) *regex.Re {
	t.Helper()
	r, e := regex.Parse(s, h.ext, h.fold)
	if r == nil || e != api.OK {
		t.Fatalf("%.80q (extended: %v): %v, %d", s, h.ext, r, e)
	}
	return r
}

func (h how) prog(t *testing.T, s string) *match.Prog {
	t.Helper()
	return match.New(h.re(t, s))
}

// span is how it is told what was found: without bytes, if nothing was.
func span(begin, end int, found bool) string {
	if !found {
		if begin != 0 || end != 0 {
			return fmt.Sprintf("nothing, but %d-%d", begin, end)
		}
		return ""
	}
	return fmt.Sprintf("%d-%d", begin, end)
}

// finds fails, if something else is found, if Has does not say what Find from 0 on does, or if the bytes are changed.
func finds(t *testing.T, p *match.Prog, b []byte, from int, want string) bool {
	t.Helper()
	before := bytes.Clone(b)
	got := span(p.Find(b, from))
	_, _, isThere := p.Find(b, 0)
	has := p.Has(b)
	switch {
	case got != want:
		t.Errorf("in %.80q (%d bytes) from %d on: %q, not %q", b, len(b), from, got, want)
	case has != isThere:
		t.Errorf("Has of %.80q (%d bytes): %v", b, len(b), has)
	case !bytes.Equal(b, before):
		t.Errorf("%.80q became %.80q", before, b)
	default:
		return true
	}
	return false
}

// row is a text, bytes, from where on, and what is found.
type row struct {
	s, b string
	from int
	want string
}

func (h how) rows(t *testing.T, rows ...row) {
	t.Helper()
	for _, x := range rows {
		if r := h.re(t, x.s); !finds(t, match.New(r), []byte(x.b), x.from, x.want) {
			t.Logf("of %.80q, told as %.80s", x.s, r)
		}
	}
}

// places are some of at most 63 bytes, as bits.
type places uint64

// stands are the places to which a node stands from one of some others: the chapter's P16.1, word by word.
func stands(n *regex.Node, b []byte, from places) places {
	switch n.Kind {
	case regex.Empty:
		return from
	case regex.Set:
		return overSet(n, b, from)
	case regex.Begin:
		return from & 1
	case regex.End:
		return from & (1 << len(b))
	case regex.Cat:
		for _, k := range n.Kids {
			from = stands(k, b, from)
		}
		return from
	case regex.Alt:
		var to places
		for _, k := range n.Kids {
			to |= stands(k, b, from)
		}
		return to
	}
	return overTimes(n, b, from)
}

func overSet(n *regex.Node, b []byte, from places) places {
	var to places
	for at, c := range b {
		if from&(1<<at) != 0 && n.Has[c] {
			to |= 1 << (at + 1)
		}
	}
	return to
}

func overTimes(n *regex.Node, b []byte, from places) places {
	for range n.Min {
		from = stands(n.Kids[0], b, from)
	}
	// Once more comes to no other places, so do all times behind that; of those without end there is no last one.
	for k := n.Min; k != n.Max; k++ {
		more := from | stands(n.Kids[0], b, from)
		if more == from {
			break
		}
		from = more
	}
	return from
}

// modelFinds is what Find is to find: the chapter's P16.2.
func modelFinds(n *regex.Node, b []byte, from int) string {
	for a := max(from, 0); a <= len(b); a++ {
		if to := stands(n, b, 1<<a); to != 0 {
			return span(a, bits.Len64(uint64(to))-1, true)
		}
	}
	return ""
}

// follows fails, if something else is found than the model finds, from wherever on.
func follows(t *testing.T, r *regex.Re, l ...[]byte) {
	t.Helper()
	n, p := r.Node(), match.New(r)
	for _, b := range l {
		for from := -1; from <= len(b)+1; from++ {
			if !finds(t, p, b, from, modelFinds(n, b, from)) {
				t.Fatalf("of %.200s", r)
			}
		}
	}
}

// inTime gives up, if something is not done in a time that is many times what it may take.
func inTime(t *testing.T, what string, do func()) {
	t.Helper()
	timer := time.AfterFunc(4*time.Minute, func() { panic(what + " takes too long") })
	defer timer.Stop()
	do()
}

// everyText are all texts of up to so many signs.
func everyText(most int, signs ...string) []string {
	all := []string{""}
	for begin := 0; most > 0; most-- {
		end := len(all)
		for _, s := range all[begin:end] {
			for _, sign := range signs {
				all = append(all, s+sign)
			}
		}
		begin = end
	}
	return all
}

func everyBytes(most int, signs ...string) [][]byte {
	var all [][]byte
	for _, s := range everyText(most, signs...) {
		all = append(all, []byte(s))
	}
	return all
}
