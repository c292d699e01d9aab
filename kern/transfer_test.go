package kern_test

import (
	"math"
	"strings"
	"testing"

	"toolchest/api"
	"toolchest/kern"
	"toolchest/tree"
)

// P3.4

// ends is a rig with one of each thing: 0 a source, 1 a sink, 2 an end to read from, 3 its end to write to, 4 a directory, 5 to 8 files that were opened with 1 to 4.
func ends(t *testing.T, faults ...api.Fault) *rig {
	t.Helper()
	r := newRig(t, faults...)
	r.put(r.a, 0, r.k.Source([]byte("abc")), api.OK)
	r.put(r.a, 1, r.k.Sink(), api.OK)
	from, to := r.k.Pipe()
	r.put(r.a, 2, from, api.OK)
	r.put(r.a, 3, to, api.OK)
	r.open(r.a, "/d", api.OpenRead, 4, api.OK)
	r.open(r.a, "/f", api.OpenRead, 5, api.OK)
	r.open(r.a, "/w", api.OpenWrite, 6, api.OK)
	r.open(r.a, "/a", api.OpenAppend, 7, api.OK)
	r.open(r.a, "/n", api.OpenNew, 8, api.OK)
	return r
}

// A transfer that is refused uses up no fault, one that is attempted uses up one: a failing fault tells which it is.
func TestAttempts(t *testing.T) {
	const attempted = api.ErrIO
	for _, c := range []struct {
		fd          int
		read, write api.Errno
	}{
		{0, attempted, api.ErrInval},
		{1, api.ErrInval, attempted},
		{2, api.ErrAgain, api.ErrInval},
		{3, api.ErrInval, attempted},
		{4, api.ErrIsDir, api.ErrInval},
		{5, attempted, api.ErrInval},
		{6, api.ErrInval, attempted},
		{7, api.ErrInval, attempted},
		{8, attempted, attempted},
		{9, api.ErrBadFd, api.ErrBadFd},
		{15, api.ErrBadFd, api.ErrBadFd},
		{-1, api.ErrBadFd, api.ErrBadFd},
		{16, api.ErrBadFd, api.ErrBadFd},
		{math.MaxInt, api.ErrBadFd, api.ErrBadFd},
		{math.MinInt, api.ErrBadFd, api.ErrBadFd},
	} {
		count := func(e api.Errno) int {
			if e == attempted {
				return 1
			}
			return 0
		}
		r := ends(t, api.Fault{Kind: api.FaultIO})
		r.read(r.a, c.fd, 9, "", c.read)
		r.used(count(c.read))

		r = ends(t, api.Fault{Kind: api.FaultIO})
		r.write(r.a, c.fd, "xyz", 0, c.write)
		r.used(count(c.write))

		// Ahead of what a thing can't do stands that there is none, and behind it that nothing is to be done.
		r = ends(t, api.Fault{Kind: api.FaultIO})
		none, empty := api.ErrInval, api.OK
		if c.read == api.ErrBadFd {
			none = api.ErrBadFd
		}
		if c.write != attempted {
			empty = c.write
		}
		for _, most := range []int{0, -1, math.MinInt} {
			r.read(r.a, c.fd, most, "", none)
		}
		r.write(r.a, c.fd, "", 0, empty)
		r.used(0)
	}
}

// nil is as empty as an empty list.
func TestEmptyWrite(t *testing.T) {
	r := ends(t, api.Fault{Kind: api.FaultIO})
	for _, fd := range []int{1, 3, 6, 7, 8} {
		n, e := r.a.Write(fd, nil)
		if n != 0 || e != api.OK {
			t.Errorf("Write(%d) of nothing: %d, error %d", fd, n, e)
		}
	}
	r.used(0)
	r.close(r.a, 2, api.OK)
	r.write(r.a, 3, "", 0, api.OK)
	r.write(r.a, 3, "x", 0, api.ErrPipe)
	r.used(0)
}

// An empty Write to a full pipe or a full file is nothing, and no error.
func TestEmptyWriteToFull(t *testing.T) {
	r := ends(t)
	r.write(r.a, 3, strings.Repeat("x", 99), 64, api.OK)
	r.write(r.a, 6, strings.Repeat("x", 9999), 8192, api.OK)
	r.write(r.a, 3, "", 0, api.OK)
	r.write(r.a, 6, "", 0, api.OK)
	r.write(r.a, 3, "x", 0, api.ErrAgain)
	r.write(r.a, 6, "x", 0, api.ErrNoSpace)
}

// Who reads an empty pipe waits as long as some descriptor of any table has its end to write to.
func TestEmptyPipe(t *testing.T) {
	r := newRig(t, api.Fault{}, api.Fault{}, api.Fault{}, api.Fault{})
	from, to := r.k.Pipe()
	b := r.k.Table()
	r.put(r.a, 0, from, api.OK)
	r.read(r.a, 0, 1, "", api.OK)
	r.used(1)
	r.put(b, 1, to, api.OK)
	r.read(r.a, 0, 1, "", api.ErrAgain)
	c := b.Fork()
	r.dup(c, 1, 2, api.OK)
	r.close(b, 1, api.OK)
	r.close(c, 1, api.OK)
	r.read(r.a, 0, 1, "", api.ErrAgain)
	r.used(1)
	r.write(c, 2, "xy", 2, api.OK)
	c.Free()
	r.read(r.a, 0, 1, "x", api.OK)
	r.read(r.a, 0, 1, "y", api.OK)
	r.used(4)
	r.read(r.a, 0, 1, "", api.OK)
	r.put(c, 0, to, api.OK)
	r.read(r.a, 0, 1, "", api.ErrAgain)
}

// Nobody but the end to write to lets a reader wait.
func TestPipeWithItsReaderTwice(t *testing.T) {
	r := newRig(t)
	from, _ := r.k.Pipe()
	_, other := r.k.Pipe()
	r.put(r.a, 0, from, api.OK)
	r.put(r.a, 1, from, api.OK)
	r.put(r.a, 2, other, api.OK)
	r.read(r.a, 0, 1, "", api.OK)
	r.write(r.a, 2, "x", 0, api.ErrPipe)
}

func TestPipeIsFull(t *testing.T) {
	r := ends(t, api.Fault{}, api.Fault{}, api.Fault{}, api.Fault{})
	r.write(r.a, 3, strings.Repeat("a", 63), 63, api.OK)
	r.write(r.a, 3, "bc", 1, api.OK)
	r.used(2)
	r.write(r.a, 3, "d", 0, api.ErrAgain)
	r.used(2)
	r.read(r.a, 2, 1, "a", api.OK)
	r.write(r.a, 3, "efg", 1, api.OK)
	r.write(r.a, 3, "h", 0, api.ErrAgain)
	r.used(4)
	r.read(r.a, 2, math.MaxInt, strings.Repeat("a", 62)+"be", api.OK)
	r.write(r.a, 3, strings.Repeat("b", 65), 64, api.OK)
	r.read(r.a, 2, 65, strings.Repeat("b", 64), api.OK)
	r.write(r.a, 3, strings.Repeat("c", 64), 64, api.OK)
	r.read(r.a, 2, 64, strings.Repeat("c", 64), api.OK)
}

// Whether somebody reads is asked ahead of how full it is.
func TestPipeThatNobodyReads(t *testing.T) {
	r := newRig(t, api.Fault{}, api.Fault{})
	from, to := r.k.Pipe()
	b := r.k.Table()
	r.put(r.a, 1, to, api.OK)
	r.write(r.a, 1, "x", 0, api.ErrPipe)
	r.used(0)
	r.put(b, 0, from, api.OK)
	r.write(r.a, 1, strings.Repeat("x", 64), 64, api.OK)
	r.write(r.a, 1, "x", 0, api.ErrAgain)
	r.close(b, 0, api.OK)
	r.write(r.a, 1, "x", 0, api.ErrPipe)
	r.used(1)
	r.put(b, 0, from, api.OK)
	r.write(r.a, 1, "x", 0, api.ErrAgain)
	r.used(1)
}

func TestFileIsFull(t *testing.T) {
	most := strings.Repeat("m", api.MaxData)
	for how, path := range map[int]string{api.OpenWrite: "/f", api.OpenAppend: "/n", api.OpenNew: "/n"} {
		r := newRig(t, api.Fault{}, api.Fault{}, api.Fault{}, api.Fault{})
		r.open(r.a, path, how, 0, api.OK)
		r.write(r.a, 0, most[1:], 8191, api.OK)
		r.write(r.a, 0, "mm", 1, api.OK)
		r.used(2)
		r.write(r.a, 0, "m", 0, api.ErrNoSpace)
		r.used(2)
		r.holds(path, most, tick)

		r = newRig(t)
		r.open(r.a, path, how, 0, api.OK)
		r.write(r.a, 0, most, 8192, api.OK)
		r.write(r.a, 0, most, 0, api.ErrNoSpace)

		r = newRig(t)
		r.open(r.a, path, how, 0, api.OK)
		r.write(r.a, 0, most+most, 8192, api.OK)
		r.holds(path, most, tick)
	}
}

// Who appends is refused by the file's size, who writes by his place alone.
func TestFullByPlace(t *testing.T) {
	r := newRig(t)
	most := strings.Repeat("m", api.MaxData)
	r.open(r.a, "/n", api.OpenNew, 0, api.OK)
	r.open(r.a, "/n", api.OpenAppend, 1, api.OK)
	r.open(r.a, "/n", api.OpenWrite, 2, api.OK)
	r.write(r.a, 0, most, 8192, api.OK)
	r.write(r.a, 0, "x", 0, api.ErrNoSpace)
	r.write(r.a, 1, "x", 0, api.ErrNoSpace)
	r.write(r.a, 2, "first", 5, api.OK)
	r.holds("/n", "first"+most[5:], tick)
	r.open(r.a, "/n", api.OpenWrite, 3, api.OK)
	r.write(r.a, 0, "x", 0, api.ErrNoSpace)
	r.write(r.a, 1, "x", 1, api.OK)
	r.holds("/n", "x", tick)
}

// A file that was loaded may be greater: it is read to its end, and not made greater yet.
func TestGreaterFile(t *testing.T) {
	text := strings.Repeat("0123456789", 1000)
	x, e := tree.Load([]api.Node{{Path: "/g", Data: []byte(text)}})
	is(t, "Load", e, api.OK)
	k := kern.New(x, nil, tick)
	r := &rig{t, k, k.Table()}
	r.open(r.a, "/g", api.OpenRead, 0, api.OK)
	r.read(r.a, 0, 9000, text[:9000], api.OK)
	r.read(r.a, 0, 9000, text[9000:], api.OK)
	r.read(r.a, 0, 9000, "", api.OK)
	r.open(r.a, "/g", api.OpenAppend, 1, api.OK)
	r.write(r.a, 1, "x", 0, api.ErrNoSpace)
	r.holds("/g", text, 0)
}

// P3.5

// Each kind of fault at a Read of `abcdef`, at most 4, and at a Write of `abcd`: what came of it, and of a second one.
func TestFaults(t *testing.T) {
	for _, c := range []struct {
		fault       api.Fault
		n           int
		read, write api.Errno
	}{
		{api.Fault{}, 4, api.OK, api.OK},
		{api.Fault{N: 1}, 4, api.OK, api.OK},
		{api.Fault{Kind: api.FaultShort, N: 1}, 1, api.OK, api.OK},
		{api.Fault{Kind: api.FaultShort, N: 3}, 3, api.OK, api.OK},
		{api.Fault{Kind: api.FaultShort, N: 4}, 4, api.OK, api.OK},
		{api.Fault{Kind: api.FaultShort, N: 5}, 4, api.OK, api.OK},
		{api.Fault{Kind: api.FaultShort, N: math.MaxInt}, 4, api.OK, api.OK},
		{api.Fault{Kind: api.FaultShort}, 1, api.OK, api.OK},
		{api.Fault{Kind: api.FaultShort, N: -1}, 1, api.OK, api.OK},
		{api.Fault{Kind: api.FaultShort, N: math.MinInt}, 1, api.OK, api.OK},
		{api.Fault{Kind: api.FaultIntr}, 0, api.ErrIntr, api.ErrIntr},
		{api.Fault{Kind: api.FaultIntr, N: 2}, 0, api.ErrIntr, api.ErrIntr},
		{api.Fault{Kind: api.FaultSpace}, 4, api.OK, api.ErrNoSpace},
		{api.Fault{Kind: api.FaultSpace, N: 2}, 4, api.OK, api.ErrNoSpace},
		{api.Fault{Kind: api.FaultIO}, 0, api.ErrIO, api.ErrIO},
		{api.Fault{Kind: api.FaultPipe}, 4, api.OK, api.ErrPipe},
		{api.Fault{Kind: api.FaultPipe, N: 3}, 4, api.OK, api.ErrPipe},
		{api.Fault{Kind: 6, N: 1}, 4, api.OK, api.OK},
		{api.Fault{Kind: -1, N: 1}, 4, api.OK, api.OK},
		{api.Fault{Kind: math.MaxInt}, 4, api.OK, api.OK},
		{api.Fault{Kind: math.MinInt}, 4, api.OK, api.OK},
	} {
		faultAtReads(t, c.fault, c.n, c.read)
		n := c.n
		if c.write != api.OK {
			n = 0
		}
		faultAtWrites(t, c.fault, n, c.write)
	}
}

// faultAtReads holds that a fault lets n bytes of four through, from whatever is read.
func faultAtReads(t *testing.T, f api.Fault, n int, want api.Errno) {
	t.Helper()
	const text = "abcdef"
	from := func(r *rig) *rig {
		r.put(r.a, 0, r.k.Source([]byte(text)), api.OK)
		source, sink := r.k.Pipe()
		r.put(r.a, 1, source, api.OK)
		r.put(r.a, 2, sink, api.OK)
		r.open(r.a, "/t", api.OpenWrite, 3, api.OK)
		r.write(r.a, 2, text, 6, api.OK)
		r.write(r.a, 3, text, 6, api.OK)
		r.open(r.a, "/t", api.OpenRead, 4, api.OK)
		return r
	}
	for _, fd := range []int{0, 1, 4} {
		r := from(newRig(t, api.Fault{}, api.Fault{}, f))
		r.read(r.a, fd, 4, text[:n], want)
		r.used(3)
		r.read(r.a, fd, 9, text[n:], api.OK)
		r.used(3)
	}
}

// faultAtWrites holds that a fault lets n bytes of four through, to whatever is written.
func faultAtWrites(t *testing.T, f api.Fault, n int, want api.Errno) {
	t.Helper()
	const text = "abcd"
	then := text[:n] + "xyz"
	for _, fd := range []int{1, 3, 6, 7, 8} {
		r := ends(t, f)
		r.write(r.a, fd, text, n, want)
		r.used(1)
		r.write(r.a, fd, "xyz", 3, api.OK)
		r.used(1)
		switch fd {
		case 1:
			r.said(2, then)
		case 3:
			r.read(r.a, 2, 99, then, api.OK)
		case 6:
			r.holds("/w", then, tick)
		case 7:
			r.holds("/a", then, tick)
		case 8:
			r.holds("/n", then, tick)
		}
	}
}

// Faults are used up in order, one by each transfer of whatever table, and by nothing else.
func TestFaultsInOrder(t *testing.T) {
	r := ends(t, api.Fault{Kind: api.FaultShort, N: 2}, api.Fault{Kind: api.FaultSpace}, api.Fault{Kind: api.FaultIntr}, api.Fault{}, api.Fault{Kind: api.FaultIO})
	b := r.a.Fork()
	r.used(0)
	r.write(r.a, 1, "abc", 2, api.OK)
	r.used(1)
	r.read(b, 2, 9, "", api.ErrAgain)
	r.read(b, 0, 9, "abc", api.OK)
	r.used(2)
	r.write(r.a, 5, "x", 0, api.ErrInval)
	r.write(r.a, 6, "x", 0, api.ErrIntr)
	r.used(3)
	r.open(r.a, "/f", api.OpenRead, 9, api.OK)
	r.close(r.a, 9, api.OK)
	r.write(b, 6, "x", 1, api.OK)
	r.used(4)
	r.read(r.a, 0, 9, "", api.ErrIO)
	r.used(5)
	r.read(r.a, 0, 9, "", api.OK)
	r.write(r.a, 1, "d", 1, api.OK)
	r.used(5)
	r.said(2, "abd")
}

// A Read at the end is attempted: it uses up a fault, and may fail.
func TestFaultsAtTheEnd(t *testing.T) {
	r := newRig(t, api.Fault{Kind: api.FaultShort}, api.Fault{Kind: api.FaultIO}, api.Fault{Kind: api.FaultIntr})
	from, _ := r.k.Pipe()
	r.put(r.a, 0, r.k.Source(nil), api.OK)
	r.put(r.a, 1, from, api.OK)
	r.open(r.a, "/n", api.OpenNew, 2, api.OK)
	r.read(r.a, 0, 5, "", api.OK)
	r.read(r.a, 1, 5, "", api.ErrIO)
	r.read(r.a, 2, 5, "", api.ErrIntr)
	r.used(3)
	r.read(r.a, 1, 5, "", api.OK)
	r.read(r.a, 2, 5, "", api.OK)
	r.used(3)
}

// A fault that cuts short does so within what there is room for.
func TestShortWithinRoom(t *testing.T) {
	r := ends(t, api.Fault{}, api.Fault{Kind: api.FaultShort, N: 3}, api.Fault{Kind: api.FaultShort, N: 9}, api.Fault{}, api.Fault{Kind: api.FaultShort, N: 2}, api.Fault{Kind: api.FaultShort, N: 9})
	r.write(r.a, 3, strings.Repeat("x", 59), 59, api.OK)
	r.write(r.a, 3, "abcdefgh", 3, api.OK)
	r.write(r.a, 3, "defgh", 2, api.OK)
	r.read(r.a, 2, 99, strings.Repeat("x", 59)+"abcde", api.OK)
	r.write(r.a, 6, strings.Repeat("x", 8188), 2, api.OK)
	r.write(r.a, 6, strings.Repeat("x", 8188), 9, api.OK)
	r.used(6)
	r.write(r.a, 6, strings.Repeat("x", 8188), 8181, api.OK)
}

// A file that a Write failed at keeps its bytes and its tick.
func TestFailedWriteChangesNothing(t *testing.T) {
	for _, kind := range []int{api.FaultIntr, api.FaultSpace, api.FaultIO, api.FaultPipe} {
		r := newRig(t, api.Fault{Kind: kind})
		r.open(r.a, "/f", api.OpenAppend, 0, api.OK)
		was := shown(r.k.Tree())
		n, e := r.a.Write(0, []byte("more"))
		if now := shown(r.k.Tree()); n != 0 || e == api.OK || now != was {
			t.Errorf("the fault %d: %d, error %d, and the tree is\n%s", kind, n, e, now)
		}
	}
}

// Who appends writes at the end as it is then, whoever made it so.
func TestAppend(t *testing.T) {
	r := newRig(t)
	r.open(r.a, "/f", api.OpenAppend, 0, api.OK)
	r.open(r.a, "/f", api.OpenAppend, 1, api.OK)
	r.write(r.a, 0, "A", 1, api.OK)
	r.write(r.a, 1, "B", 1, api.OK)
	r.write(r.a, 0, "C", 1, api.OK)
	r.holds("/f", "helloABC", tick)
	r.open(r.a, "/f", api.OpenWrite, 2, api.OK)
	r.holds("/f", "", tick)
	r.write(r.a, 0, "D", 1, api.OK)
	r.write(r.a, 2, "xyz", 3, api.OK)
	r.write(r.a, 1, "E", 1, api.OK)
	r.holds("/f", "xyzE", tick)
}

// Who writes goes on at his place, though the file was cut meanwhile.
func TestWriteAtPlace(t *testing.T) {
	r := newRig(t)
	r.open(r.a, "/f", api.OpenWrite, 0, api.OK)
	r.write(r.a, 0, "abc", 3, api.OK)
	r.open(r.a, "/f", api.OpenWrite, 1, api.OK)
	r.write(r.a, 1, "x", 1, api.OK)
	r.holds("/f", "x", tick)
	r.write(r.a, 0, "d", 1, api.OK)
	r.holds("/f", "x\x00\x00d", tick)
	r.write(r.a, 1, "y", 1, api.OK)
	r.holds("/f", "xy\x00d", tick)
}

// A file that was opened with 4 is read and written from its one place on.
func TestNewIsReadAndWritten(t *testing.T) {
	r := newRig(t, api.Fault{}, api.Fault{Kind: api.FaultShort, N: 1})
	r.open(r.a, "/n", api.OpenNew, 0, api.OK)
	r.open(r.a, "/n", api.OpenAppend, 1, api.OK)
	r.write(r.a, 1, "abcdefgh", 8, api.OK)
	r.read(r.a, 0, 5, "a", api.OK)
	r.read(r.a, 0, 2, "bc", api.OK)
	r.write(r.a, 0, "XY", 2, api.OK)
	r.read(r.a, 0, 1, "f", api.OK)
	r.write(r.a, 0, "12345", 5, api.OK)
	r.read(r.a, 0, 9, "", api.OK)
	r.holds("/n", "abcXYf12345", tick)
	r.write(r.a, 1, "!", 1, api.OK)
	r.read(r.a, 0, 9, "!", api.OK)
}

// Who has come to the end reads what is written behind it later.
func TestReadBehindTheEnd(t *testing.T) {
	r := newRig(t)
	r.open(r.a, "/f", api.OpenRead, 0, api.OK)
	r.read(r.a, 0, 9, "hello", api.OK)
	r.read(r.a, 0, 9, "", api.OK)
	r.open(r.a, "/f", api.OpenAppend, 1, api.OK)
	r.write(r.a, 1, "!", 1, api.OK)
	r.read(r.a, 0, 9, "!", api.OK)
	r.open(r.a, "/f", api.OpenWrite, 2, api.OK)
	r.read(r.a, 0, 9, "", api.OK)
	r.write(r.a, 1, "1234567", 7, api.OK)
	r.read(r.a, 0, 9, "7", api.OK)
}

// P3.6

// Whatever is written to a pipe, in whatever pieces, is read in order, each byte once.
func TestPipeKeepsOrder(t *testing.T) {
	var text strings.Builder
	for i := range 5000 {
		text.WriteByte(byte(i * i / 7))
	}
	for _, step := range []int{1, 2, 3, 7, 63, 64, 65, 100} {
		r := newRig(t, api.Fault{Kind: api.FaultShort, N: 2}, api.Fault{Kind: api.FaultIntr}, api.Fault{Kind: api.FaultShort, N: 40}, api.Fault{Kind: api.FaultIntr})
		from, to := r.k.Pipe()
		r.put(r.a, 0, from, api.OK)
		r.put(r.a, 1, to, api.OK)
		rest := []byte(text.String())
		var got []byte
		for turn := 0; len(got) < text.Len() && turn < 1<<16; turn++ {
			n, _ := r.a.Write(1, rest[:min(len(rest), step)])
			rest = rest[n:]
			b, _ := r.a.Read(0, 1+turn%11)
			got = append(got, b...)
		}
		if string(got) != text.String() {
			t.Errorf("pieces of %d bytes: what was read is not what was written", step)
		}
		r.read(r.a, 0, 1, "", api.ErrAgain)
	}
}

// A file without a name is there as long as a descriptor of any table has it, and gone then.
func TestFileWithoutName(t *testing.T) {
	r := newRig(t)
	b := r.k.Table()
	r.open(r.a, "/f", api.OpenRead, 0, api.OK)
	r.open(b, "/f", api.OpenAppend, 0, api.OK)
	c := b.Fork()
	r.dup(c, 0, 9, api.OK)
	is(t, "Remove", r.k.Tree().Remove("", "/f", false), api.OK)
	r.files(2)
	r.write(b, 0, "!", 1, api.OK)
	r.read(r.a, 0, 9, "hello!", api.OK)
	r.a.Free()
	b.Free()
	r.files(2)
	r.close(c, 0, api.OK)
	r.files(2)
	r.write(c, 9, "?", 1, api.OK)
	r.close(c, 9, api.OK)
	r.files(1)
	r.open(r.a, "/f", api.OpenRead, 0, api.ErrNoEnt)
}

// A file that has a name again when it is let go stays.
func TestFileThatKeepsItsName(t *testing.T) {
	r := newRig(t)
	r.open(r.a, "/f", api.OpenAppend, 0, api.OK)
	is(t, "Rename", r.k.Tree().Rename("", "/f", "/d/h"), api.OK)
	r.write(r.a, 0, "!", 1, api.OK)
	r.a.Free()
	r.files(2)
	r.holds("/d/h", "hello!", tick)
}

// A new file of the same name is another one.
func TestNameAnew(t *testing.T) {
	r := newRig(t)
	r.open(r.a, "/f", api.OpenRead, 0, api.OK)
	is(t, "Remove", r.k.Tree().Remove("", "/f", false), api.OK)
	r.open(r.a, "/f", api.OpenNew, 1, api.OK)
	r.write(r.a, 1, "new", 3, api.OK)
	r.files(3)
	r.read(r.a, 0, 9, "hello", api.OK)
	r.close(r.a, 0, api.OK)
	r.files(2)
	r.holds("/f", "new", tick)
}

// A directory that is open is in nobody's way.
func TestOpenDirectoryMayGo(t *testing.T) {
	r := newRig(t)
	is(t, "Make", second(r.k.Tree().Make("", "/e", true, 0, 0)), api.OK)
	r.open(r.a, "/e", api.OpenRead, 0, api.OK)
	is(t, "Remove", r.k.Tree().Remove("", "/e", true), api.OK)
	r.read(r.a, 0, 1, "", api.ErrIsDir)
	r.close(r.a, 0, api.OK)
}

func second(_ int, e api.Errno) api.Errno { return e }

// R4

// scribble changes all that a list has, its spare room too.
func scribble(b []byte) {
	b = b[:cap(b)]
	for i := range b {
		b[i] = '#'
	}
}

// What is handed in is not kept.
func TestNothingIsKept(t *testing.T) {
	faults := []api.Fault{{Kind: api.FaultShort, N: 2}, {Kind: api.FaultIntr}}
	k := kern.New(tree.New(), faults, 0)
	faults[0], faults[1] = api.Fault{Kind: api.FaultIO}, api.Fault{Kind: api.FaultIO}
	r := &rig{t, k, k.Table()}
	text := []byte("abcdef")
	r.put(r.a, 0, k.Source(text), api.OK)
	scribble(text)
	r.read(r.a, 0, 9, "ab", api.OK)
	r.read(r.a, 0, 9, "", api.ErrIntr)
	r.read(r.a, 0, 9, "cdef", api.OK)

	from, to := k.Pipe()
	sink := k.Sink()
	r.put(r.a, 1, from, api.OK)
	r.put(r.a, 2, to, api.OK)
	r.put(r.a, 3, sink, api.OK)
	r.open(r.a, "/n", api.OpenNew, 4, api.OK)
	for fd := 2; fd <= 4; fd++ {
		text := []byte("abcdef")
		n, e := r.a.Write(fd, text)
		if n != 6 || e != api.OK {
			t.Errorf("Write(%d): %d, error %d", fd, n, e)
		}
		scribble(text)
	}
	r.read(r.a, 1, 9, "abcdef", api.OK)
	r.said(sink, "abcdef")
	r.holds("/n", "abcdef", 0)
}

// What is handed in is not changed, and neither is the room behind its end.
func TestNothingIsChanged(t *testing.T) {
	faults := []api.Fault{{}, {}, {Kind: 7, N: 7}}
	k := kern.New(tree.New(), faults[:2], 0)
	r := &rig{t, k, k.Table()}
	text := []byte("abcdef")
	r.put(r.a, 0, k.Source(text[:3]), api.OK)
	from, to := k.Pipe()
	sink := k.Sink()
	r.put(r.a, 1, from, api.OK)
	r.put(r.a, 2, to, api.OK)
	r.put(r.a, 3, sink, api.OK)
	r.open(r.a, "/n", api.OpenNew, 4, api.OK)
	for fd := 2; fd <= 4; fd++ {
		r.a.Write(fd, text[:3])
		r.write(r.a, fd, "xyz", 3, api.OK)
	}
	r.read(r.a, 0, 9, "abc", api.OK)
	r.read(r.a, 1, 9, "abcxyz", api.OK)
	if string(text) != "abcdef" || faults[2] != (api.Fault{Kind: 7, N: 7}) {
		t.Errorf("what was handed in is %q, %v", text, faults)
	}
}

// What is answered is new memory: who changes it changes nothing else.
func TestAnswersAreNew(t *testing.T) {
	r := newRig(t)
	r.put(r.a, 0, r.k.Source([]byte("abcdef")), api.OK)
	from, to := r.k.Pipe()
	sink := r.k.Sink()
	r.put(r.a, 1, from, api.OK)
	r.put(r.a, 2, to, api.OK)
	r.put(r.a, 3, sink, api.OK)
	r.write(r.a, 2, "abcdef", 6, api.OK)
	r.write(r.a, 3, "abcdef", 6, api.OK)
	r.open(r.a, "/f", api.OpenRead, 4, api.OK)
	for _, fd := range []int{0, 1, 4} {
		first, _ := r.a.Read(fd, 2)
		was := string(first)
		second, _ := r.a.Read(fd, 1)
		scribble(second)
		if string(first) != was {
			t.Errorf("two answers of Read(%d) share memory", fd)
		}
		scribble(first)
	}
	r.read(r.a, 0, 9, "def", api.OK)
	r.read(r.a, 1, 9, "def", api.OK)
	r.read(r.a, 4, 9, "lo", api.OK)
	r.holds("/f", "hello", 7)
	first, second := r.k.Said(sink), r.k.Said(sink)
	scribble(first)
	if string(second) != "abcdef" {
		t.Errorf("two answers of Said share memory: %q", second)
	}
	r.said(sink, "abcdef")
	r.write(r.a, 3, "g", 1, api.OK)
	r.said(sink, "abcdefg")
	l := r.a.Fds()
	for i := range l {
		l[i] = -1
	}
	r.fds(r.a, 0, 1, 2, 3, 4)
}
