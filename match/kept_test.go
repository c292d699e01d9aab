package match_test

import (
	"bytes"
	"math"
	"math/rand"
	"strings"
	"testing"

	"toolchest/match"
	"toolchest/regex"
)

// R1

// Whatever numbers are given, and whatever bytes: each call ends.
func TestAnyNumbers(t *testing.T) {
	for _, p := range []*match.Prog{match.New(regex.Any(nil)), match.New(regex.Literal("", false)), extended.prog(t, "(^|a)*($|b)"), extended.prog(t, "^$")} {
		for _, b := range [][]byte{nil, {}, []byte("a"), []byte("ab\x00\xff\n")} {
			for _, from := range []int{math.MinInt, math.MinInt + 1, math.MinInt32, -2, -1, 0, 1, 2, len(b), len(b) + 1, math.MaxInt32, math.MaxInt - 1, math.MaxInt} {
				begin, end, found := p.Find(b, from)
				if !found && (begin != 0 || end != 0) || found && (begin < max(from, 0) || end < begin || end > len(b)) {
					t.Errorf("in %q from %d on: %d, %d, %v", b, from, begin, end, found)
				}
				if from > len(b) && found {
					t.Errorf("in %q from %d on something is found", b, from)
				}
			}
		}
	}
}

// Nodes may stand very deep within one another.
func TestDeepNodes(t *testing.T) {
	r := regex.Literal("ab", false)
	for range 100000 {
		r = regex.Whole(r)
	}
	inTime(t, "a very deep expression", func() {
		p := match.New(r)
		finds(t, p, []byte("ab"), 0, "0-2")
		finds(t, p, []byte("abb"), 0, "")
		finds(t, p, []byte("aab"), 1, "")
	})
	r = regex.Literal("b", false)
	for range 30000 {
		r = regex.Any([]*regex.Re{regex.Literal("a", false), r})
	}
	inTime(t, "a very deep expression", func() { finds(t, match.New(r), []byte("xxb"), 0, "2-3") })
	var l []*regex.Re
	for range 30000 {
		l = append(l, regex.Literal("ab", false))
	}
	inTime(t, "a very wide expression", func() { finds(t, match.New(regex.Any(l)), []byte("xxab"), 0, "2-4") })
}

// R4

// Bytes are neither changed nor kept, what is ahead of them and the room behind their end neither; and that is not looked at.
func TestBytesAreNotKept(t *testing.T) {
	for _, s := range []string{"a", "a*", "^a", "a$", "ab", "(a|b)*", ".", "b$", "^(ab)*$", "[^a]+", "x|$"} {
		p := extended.prog(t, s)
		for _, inner := range []string{"", "a", "ab", "ba", "aab", "bxa"} {
			room := []byte("ab" + inner + "ba")
			before := bytes.Clone(room)
			b := room[2 : 2+len(inner)]
			for from := -1; from <= len(inner)+1; from++ {
				want := span(p.Find([]byte(inner), from))
				finds(t, p, b, from, want)
				finds(t, p, b[:len(b):len(b)], from, want)
				if !bytes.Equal(room, before) {
					t.Fatalf("%q became %q", before, room)
				}
			}
			// What they are changed to is what counts then.
			for i := range room {
				room[i] = "ba"[i%2]
			}
			for from := -1; from <= len(inner)+1; from++ {
				finds(t, p, b, from, span(extended.prog(t, s).Find(bytes.Clone(b), from)))
			}
		}
	}
}

// spoil changes all of nodes.
func spoil(n *regex.Node) {
	for _, k := range n.Kids {
		spoil(k)
	}
	clear(n.Kids)
	*n = regex.Node{Kind: regex.Begin, Min: 3, Max: 2}
}

// An expression stays as it is, whatever is made of it; what is made of it too, whatever becomes of its nodes.
func TestExpressionsStayAsTheyAre(t *testing.T) {
	for _, s := range []string{"a", "(a|ab)*c{1,2}", "^a|b$", "[^a]{3,}", "((a?){3})*"} {
		r := extended.re(t, s)
		told, size := r.String(), r.Size()
		p := match.New(r)
		want := map[string]string{}
		in := everyBytes(5, "a", "b", "c")
		for _, b := range in {
			want[string(b)] = span(p.Find(b, 0))
		}
		more := []*match.Prog{match.New(r), match.New(regex.Any([]*regex.Re{r})), match.New(regex.Any([]*regex.Re{r, regex.Any(nil)}))}
		whole := match.New(regex.Whole(r))
		match.New(regex.Any([]*regex.Re{r, regex.Literal("b", true), r}))
		spoil(r.Node())
		for _, b := range in {
			finds(t, p, b, 0, want[string(b)])
			for _, other := range more {
				finds(t, other, b, 0, want[string(b)])
			}
			if begin, end, found := whole.Find(b, 0); found && (begin != 0 || end != len(b) || want[string(b)] != span(begin, end, found)) {
				t.Errorf("%q from the beginning to the end of %q: %d-%d", s, b, begin, end)
			}
		}
		if r.String() != told || r.Size() != size {
			t.Errorf("%s became %s, its size %d", told, r, r.Size())
		}
	}
}

// R5

// One and the same Prog answers alike, whatever it and others were asked before, in whichever order.
func TestAnswersHangOnNothingElse(t *testing.T) {
	type question struct {
		prog, bytes, from int
	}
	texts := []string{"a", "b*", "a|ab", "^a", "a$", "(a|b)*c", "(ab){2}", "abcd|c", "[^a]+", "(a*)*b", "$", noByte, "((a|b){0,9}c){3}"}
	in := [][]byte{nil, []byte("a"), []byte("b"), []byte("xab"), []byte("abab"), []byte("abcabcabc"), []byte("abcx"), []byte(strings.Repeat("ab", 50)), []byte(strings.Repeat("a", 99) + "b"), []byte("\n\x00\xff")}
	var progs []*match.Prog
	for _, s := range texts {
		progs = append(progs, extended.prog(t, s))
	}
	first := map[question]string{}
	c := rand.New(rand.NewSource(6))
	for range 50000 {
		q := question{c.Intn(len(progs)), c.Intn(len(in)), c.Intn(9) - 2}
		got := span(progs[q.prog].Find(in[q.bytes], q.from))
		if want, ok := first[q]; !ok {
			first[q] = got
			if fresh := span(extended.prog(t, texts[q.prog]).Find(bytes.Clone(in[q.bytes]), q.from)); fresh != got {
				t.Errorf("%q in %q from %d on: %q, asked as the first thing %q", texts[q.prog], in[q.bytes], q.from, got, fresh)
			}
		} else if got != want {
			t.Errorf("%q in %q from %d on: %q, before that %q", texts[q.prog], in[q.bytes], q.from, got, want)
		}
		if progs[q.prog].Has(in[q.bytes]) != (span(progs[q.prog].Find(in[q.bytes], 0)) != "") {
			t.Errorf("Has of %q: %q", in[q.bytes], texts[q.prog])
		}
	}
}
