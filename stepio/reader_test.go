package stepio_test

import (
	"strings"
	"testing"

	"toolchest/api"
	"toolchest/kern"
	"toolchest/proc"
	"toolchest/stepio"
	"toolchest/tree"
)

// P5.1

func TestChunk(t *testing.T) {
	reads(t, "", 4, 5, "", "CC", ".@0 .@0")
	reads(t, "abcdefghi", 4, 5, "", "CCCC", "abcd@4 efgh@4 i@1 .@0")
	reads(t, "a\n\nb", 4, 5, "", "CC", "a\n\nb@4 .@0")
	reads(t, "ab", 1, 1, "", "CCC", "a@1 b@1 .@0")
	reads(t, "abc", 100, 1, "", "CC", "abc@3 .@0")
	reads(t, "abcdef", 4, 5, "1219", "CCCCC", "a@1 bc@2 d@1 ef@2 .@0")
}

func TestChunkOfWhatWasReadAhead(t *testing.T) {
	reads(t, "ab\ncde", 4, 5, "", "LCCC", "<ab>@3 c@1 de@2 .@0")
	reads(t, "ab\ncde", 3, 5, "", "LCC", "<ab>@2 cde@3 .@0")
	reads(t, "abcde", 4, 5, "", "MCMCC", "yes@4 abcd@4 yes@5 e@1 .@0")
	reads(t, "ab\ncd\nef", 8, 8, "", "LMCC", "<ab>@7 yes@7 cd\nef@5 .@0").used(0)
}

func TestChunkIsReadOnceMore(t *testing.T) {
	reads(t, "ab", 4, 5, "i.i.", "CC", "ab@2 .@0").used(4)
	reads(t, "ab", 4, 5, "iiiii1iiii", "CCC", "a@1 b@1 .@0").used(10)
}

func TestChunkFails(t *testing.T) {
	reads(t, "abcdef", 4, 5, "e", "CCCC", "!7@0 abcd@4 ef@2 .@0")
	reads(t, "abcdef", 4, 5, ".e", "CCCC", "abcd@4 !7@0 ef@2 .@0")
	reads(t, "ab", 4, 5, ".e", "CCC", "ab@2 !7@0 .@0")
	reads(t, "ab", 4, 5, "iei", "CC", "!7@0 ab@2").used(3)
	reads(t, "ab\ncd", 3, 5, ".e", "LCCF", "<ab>@2 !7@0 cd@2 feed@2")
}

// Behind the end nothing is read any more.
func TestEndStays(t *testing.T) {
	reads(t, "ab", 4, 5, "..eee", "CCCLM", "ab@2 .@0 .@0 .@0 no@0").used(2)
	reads(t, "ab", 4, 5, "..eee", "LLCM", "<ab>@2 .@0 .@0 no@0").used(2)
	reads(t, "", 4, 5, ".eee", "MMCL", "no@0 no@0 .@0 .@0").used(1)
}

func TestDescriptorsThatCantBeRead(t *testing.T) {
	for _, c := range []struct {
		fd   int
		want string
	}{{9, "!11@0"}, {16, "!11@0"}, {-1, "!11@0"}, {1, "!16@0"}} {
		r := newRig(t, "ab", lim(4, 5), "")
		in := stepio.New(r.p, c.fd)
		if got, want := r.do(in, "CLM"), strings.Join([]string{c.want, c.want, c.want}, " "); got != want {
			t.Errorf("descriptor %d: %q, not %q", c.fd, got, want)
		}
	}
	r := newRig(t, "", lim(4, 5), "")
	fd, _ := r.p.Open("/d", api.OpenRead)
	if got, want := r.do(stepio.New(r.p, fd), "LCMCL"), "!4@0 !4@0 !4@0 .@0 .@0"; got != want {
		t.Errorf("a directory: %q, not %q", got, want)
	}
}

// P5.2

func TestLine(t *testing.T) {
	reads(t, "", 4, 5, "", "LFL", ".@0 none@0 .@0")
	reads(t, "a\n", 4, 5, "", "FLFLF", "none@0 <a>@1 feed@1 .@0 feed@0")
	reads(t, "a", 4, 5, "", "LFLF", "<a>@1 none@1 .@0 none@0")
	reads(t, "\n", 4, 5, "", "LFL", "<>@0 feed@0 .@0")
	reads(t, "\n\n", 4, 5, "", "LFLFL", "<>@1 feed@1 <>@0 feed@0 .@0")
	reads(t, "a\n\nb", 4, 5, "", "LFLFLFL", "<a>@3 feed@3 <>@1 feed@1 <b>@1 none@1 .@0")
	reads(t, "ab\ncd\n", 1, 2, "", "LLL", "<ab>@2 <cd>@2 .@0")
	reads(t, "ab\nc", 1, 2, "", "LFLFL", "<ab>@2 feed@2 <c>@1 none@1 .@0")
	reads(t, "\x00\r\xff\n", 100, 100, "", "LL", "<\x00\r\xff>@3 .@0")
	reads(t, "a\nb\nc\n", 100, 100, "..", "LLLL", "<a>@5 <b>@3 <c>@1 .@0").used(2)
}

func TestLineBehindChunk(t *testing.T) {
	reads(t, "abcdef\ng", 4, 5, "", "CLFLF", "abcd@4 <ef>@3 feed@3 <g>@1 none@1")
	reads(t, "abcd\ne", 4, 5, "", "CLL", "abcd@4 <>@1 <e>@1")
	reads(t, "ab\n", 3, 5, "", "CFL", "ab\n@3 none@3 .@0")
	reads(t, "a\nb\nc", 4, 5, "", "LCFL", "<a>@3 b\n@2 feed@2 <c>@1")
}

// A line of each length, for each way in which limits, Reads and the line's end may fall.
func TestLineLimit(t *testing.T) {
	for buf := 1; buf <= 8; buf++ {
		for line := 1; line <= 6; line++ {
			for n := 0; n <= line+3; n++ {
				s := strings.Repeat("x", n)
				first := "<" + s + ">"
				if n > line {
					first = "!18"
				}
				lineIs(t, s+"\n", buf, line, first, "feed")
				lineIs(t, s+"\ny", buf, line, first, "feed")
				if n > 0 {
					lineIs(t, s, buf, line, first, "none")
				}
			}
		}
	}
}

func lineIs(t *testing.T, in string, buf, line int, first, feed string) {
	t.Helper()
	r := newRig(t, in, lim(buf, line), "")
	x := stepio.New(r.p, 0)
	got := r.doOne(x, 'L')
	if got != first {
		t.Errorf("%q, Buf %d, Line %d: %s, not %s", in, buf, line, got, first)
	}
	if f := r.doOne(x, 'F'); first != "!18" && f != feed {
		t.Errorf("%q, Buf %d, Line %d: Feed %s, not %s", in, buf, line, f, feed)
	}
	if n := r.watch.Peak(); n > buf+line {
		t.Errorf("%q, Buf %d, Line %d: %d bytes were held", in, buf, line, n)
	}
}

// Behind a line that is too long it is as at the end: nothing is read any more, whatever would come.
func TestBehindErrLine(t *testing.T) {
	const in = "abcdef\ngh\n"
	for _, c := range []struct{ calls, want string }{
		{"LLLF", "!18@0 .@0 .@0 none@0"},
		{"LCC", "!18@0 .@0 .@0"},
		{"LMML", "!18@0 no@0 no@0 .@0"},
		{"LXLCM", "!18@0 free@0 .@0 .@0 no@0"},
	} {
		reads(t, in, 4, 5, "..eee", c.calls, c.want).used(2)
	}
	reads(t, "a\nbcdefgh\nc", 4, 5, "", "LFLFL", "<a>@3 feed@3 !18@0 feed@0 .@0")
	reads(t, "abcdef\ngh\n", 100, 5, "", "LLCM", "!18@0 .@0 .@0 no@0")
	reads(t, "ab", 1, 1, "..", "LL", "!18@0 .@0").used(2)
}

func TestLineFails(t *testing.T) {
	const in = "abcdefgh\nij\n"
	// Within a line: what was read of it is gone, and what comes then is read.
	reads(t, in, 4, 20, "..e", "LFLLL", "!7@0 none@0 <>@3 <ij>@2 .@0")
	reads(t, in, 4, 20, ".e", "LLF", "!7@0 <efgh>@7 feed@7")
	// At a line's begin: nothing is gone.
	reads(t, "ab\ncd\n", 3, 5, ".e", "LLFLL", "<ab>@2 !7@0 feed@0 <cd>@2 .@0")
	reads(t, "ab\n", 3, 5, "e", "LLL", "!7@0 <ab>@2 .@0")
	reads(t, "ab\n", 3, 5, ".e", "LLL", "<ab>@2 !7@0 .@0")
	// At the end of a last line without a line feed.
	reads(t, "ab", 4, 5, ".e", "LLF", "!7@0 .@0 none@0")
	// In More: then it is as at the end.
	reads(t, "ab\ncd\n", 3, 5, ".e", "LMFMLC", "<ab>@2 !7@2 feed@2 no@2 .@0 .@0").used(2)
	reads(t, "ab\n", 3, 5, "e", "MMLC", "!7@0 no@0 .@0 .@0").used(1)
	reads(t, "abcdef", 3, 5, ".e", "CMCL", "abc@3 !7@3 .@0 .@0")
}

func TestLineIsReadOnceMore(t *testing.T) {
	reads(t, "ab\nc", 1, 5, "i.i.i.i.i", "LLFL", "<ab>@2 <c>@1 none@1 .@0").used(9)
	reads(t, "ab\nc", 2, 5, "iiiii1ii1ii1iii1", "LL", "<ab>@2 <c>@1").used(16)
}

// A line that is known to be too long is told ahead of a Read that would fail; one that may be short enough yet is not.
func TestWhichErrorOfALine(t *testing.T) {
	reads(t, "abcd", 3, 2, ".e", "L", "!18@0").used(1)
	reads(t, "abcd", 3, 3, ".e", "LL", "!7@0 <d>@1")
	reads(t, "ab\ncd", 3, 2, ".e", "LL", "<ab>@2 !7@0")
	reads(t, "abc\n", 4, 2, ".e", "L", "!18@0").used(1)
}

func TestMore(t *testing.T) {
	reads(t, "", 4, 5, "", "MM", "no@0 no@0")
	reads(t, "ab\n", 4, 5, "..", "MMLMML", "yes@3 yes@3 <ab>@2 no@2 no@2 .@0").used(2)
	reads(t, "ab\ncd", 3, 5, "..", "LMML", "<ab>@2 yes@4 yes@4 <cd>@2")
	reads(t, "ab\ncd", 4, 5, ".", "LM", "<ab>@3 yes@3").used(1)
	reads(t, "a\n\n", 2, 5, "", "LMLM", "<a>@1 yes@2 <>@0 no@0")
	reads(t, "abc", 2, 5, "", "MCMC", "yes@2 ab@2 yes@3 c@1")
	reads(t, "ab", 4, 5, "iii.i", "MLM", "yes@2 <ab>@2 no@2").used(5)
	reads(t, "ab", 1, 1, "", "MCMCM", "yes@1 a@1 yes@2 b@1 no@1")
}

func TestFree(t *testing.T) {
	reads(t, "ab\ncd", 5, 5, "", "XLXXL", "free@0 <ab>@4 free@0 free@0 .@0")
	reads(t, "ab\ncdef\n", 4, 5, "", "LXLFX", "<ab>@3 free@0 <def>@3 feed@3 free@0")
	reads(t, "abcdef", 4, 5, "", "CXC", "abcd@4 free@0 ef@2")
	reads(t, "abcdef", 4, 5, "", "MXMX", "yes@4 free@0 yes@2 free@0")
	reads(t, "a\nb", 4, 5, "", "LXF", "<a>@2 free@0 feed@0")
}

// What is held reaches a line and a buffer together, and never more: also where a chunk is longer than a line.
func TestHeldAtMost(t *testing.T) {
	reads(t, "abcde\nfghij", 3, 5, "", "LM", "<abcde>@5 yes@8")
	reads(t, "abcdefghij", 4, 1, "", "CMCM", "abcd@4 yes@5 e@1 yes@5")
	reads(t, "a\nbcdefghij", 4, 1, "", "LCMM", "<a>@3 bc@2 yes@5 yes@5")
	r := reads(t, "abcde"+"fghijklm\n", 8, 5, "5", "L", "!18@0")
	if n := r.watch.Peak(); n != 13 {
		t.Errorf("%d bytes were held at most, not 13", n)
	}
}

// What a process holds besides stays as it is, and several readers hold what each of them holds.
func TestHeldBesides(t *testing.T) {
	r := newRig(t, "ab\ncd\n", lim(4, 5), "")
	r.p.Hold(100)
	fd, _ := r.p.Open("/f", api.OpenRead)
	a, b := stepio.New(r.p, 0), stepio.New(r.p, fd)
	a.Line()
	r.held("one line", 103)
	b.Line()
	r.held("two lines", 106)
	b.Line()
	r.held("another one", 106)
	a.Free()
	r.held("one is free", 103)
	b.Line()
	r.held("one is at its end", 100)
	b.Free()
	a.Free()
	r.held("both are free", 100)
}

// Limits that no job may have let no call panic, nor go on for ever.
func TestLimitsThatMayNotBe(t *testing.T) {
	const greatest = int(^uint(0) >> 1)
	for _, buf := range []int{-greatest - 1, -1, 0, 1, greatest} {
		for _, line := range []int{-greatest - 1, -1, 0, 1, greatest} {
			r := newRig(t, "abc\n\nd", lim(buf, line), "")
			r.do(stepio.New(r.p, 0), "CMLMCMLFXMC")
			if buf < 1 && r.watch.Peak() != 0 {
				t.Errorf("Buf %d, Line %d: something was held", buf, line)
			}
		}
	}
	reads(t, "abc\nd", greatest, greatest, "", "LMCL", "<abc>@4 yes@4 d@1 .@0")
	reads(t, "abc", 0, 5, "", "CLM", "!16@0 !16@0 !16@0")
}

// R4: what a reader handed out is its own till the next call; More and Feed leave it; whoever changes it, or appends to it, changes nothing of what follows.
func TestHandedOut(t *testing.T) {
	r := newRig(t, "ab\ncd\nefghij", lim(3, 9), "")
	in := stepio.New(r.p, 0)
	line, _, _ := in.Line()
	in.More()
	in.Feed()
	in.More()
	if string(line) != "ab" {
		t.Errorf("behind More a line is %q", line)
	}
	scribble(line)
	if got, want := r.do(in, "L"), "<cd>@2"; got != want {
		t.Errorf("%q, not %q", got, want)
	}
	chunk, _ := in.Chunk()
	in.More()
	if string(chunk) != "efg" {
		t.Errorf("behind More a chunk is %q", chunk)
	}
	scribble(chunk)
	if got, want := r.do(in, "LL"), "<hij>@3 .@0"; got != want {
		t.Errorf("%q, not %q", got, want)
	}
}

// Lines that stand in one buffer, one behind the other.
func TestHandedOutOfOneBuffer(t *testing.T) {
	r := newRig(t, "ab\n\ncd\nef", lim(100, 100), "")
	in := stepio.New(r.p, 0)
	for _, want := range []string{"ab", "", "cd", "ef"} {
		line, ok, e := in.Line()
		if string(line) != want || !ok || e != api.OK {
			t.Errorf("%q, %v, %d, not %q", line, ok, e, want)
		}
		scribble(line)
	}
}

// scribble writes over bytes, and over the room behind them.
func scribble(b []byte) {
	b = b[:cap(b)]
	for i := range b {
		b[i] = '!'
	}
	_ = append(b, "!!!!!!!!"...)
}

// A reader in a machine: with each step a call, and nothing is counted twice where main is gone through anew.
func TestReaderInAMachine(t *testing.T) {
	x, _ := tree.Load(nil)
	k := kern.New(x, faults(".i1"), 0)
	p := proc.New(k, nil, nil, "/", lim(4, 5))
	p.Table().Put(0, k.Source([]byte("abc\ndef\ng")))
	m := proc.Go(p, func(p *proc.Proc) int {
		in := stepio.New(p, 0)
		lines := 0
		for {
			if _, ok, e := in.Line(); !ok || e != api.OK {
				return lines
			}
			lines++
		}
	})
	for i, want := range []int{0, 0, 1, 1, 0} {
		if m.Step(); m.Held() != want {
			t.Errorf("step %d: %d bytes are held, not %d", i+1, m.Held(), want)
		}
	}
	if !m.Done() || m.Status() != 3 || m.Peak() != 5 {
		t.Errorf("it stands at %v, %d, %d", m.Done(), m.Status(), m.Peak())
	}
}
