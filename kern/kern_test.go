package kern_test

import (
	"math"
	"slices"
	"strconv"
	"strings"
	"testing"

	"toolchest/api"
	"toolchest/kern"
	"toolchest/tree"
)

const tick = 9

var tooLong = strings.Repeat("n", api.MaxName+1)

// rig is a kernel over a small tree, with one table.
type rig struct {
	t *testing.T
	k *kern.Kern
	a *kern.Table
}

// newRig has the directory /d, the files /f (number 3, `hello`, tick 7) and /d/g (number 4, `gg`), and 5 is the next number of its tree.
func newRig(t *testing.T, faults ...api.Fault) *rig {
	t.Helper()
	x, e := tree.Load([]api.Node{
		{Path: "/d", Dir: true, Mode: 0o755, Tick: 7},
		{Path: "/f", Mode: 0o600, Tick: 7, Data: []byte("hello")},
		{Path: "/d/g", Mode: 0o600, Tick: 7, Data: []byte("gg")},
	})
	is(t, "Load", e, api.OK)
	k := kern.New(x, faults, tick)
	return &rig{t, k, k.Table()}
}

// is fails, if an error is another one than that.
func is(t *testing.T, what string, got, want api.Errno) {
	t.Helper()
	if got != want {
		t.Errorf("%s: error %d, not %d", what, got, want)
	}
}

func call(name string, l ...int) string {
	var s []string
	for _, n := range l {
		s = append(s, strconv.Itoa(n))
	}
	return name + "(" + strings.Join(s, ", ") + ")"
}

func (r *rig) put(a *kern.Table, fd, what int, want api.Errno) {
	r.t.Helper()
	is(r.t, call("Put", fd, what), a.Put(fd, what), want)
}

func (r *rig) dup(a *kern.Table, fd, to int, want api.Errno) {
	r.t.Helper()
	is(r.t, call("Dup", fd, to), a.Dup(fd, to), want)
}

func (r *rig) close(a *kern.Table, fd int, want api.Errno) {
	r.t.Helper()
	is(r.t, call("Close", fd), a.Close(fd), want)
}

func (r *rig) read(a *kern.Table, fd, most int, text string, want api.Errno) {
	r.t.Helper()
	b, e := a.Read(fd, most)
	is(r.t, call("Read", fd, most), e, want)
	if string(b) != text {
		r.t.Errorf("%s: %q, not %q", call("Read", fd, most), b, text)
	}
}

func (r *rig) write(a *kern.Table, fd int, text string, n int, want api.Errno) {
	r.t.Helper()
	got, e := a.Write(fd, []byte(text))
	what := call("Write", fd) + " of " + strconv.Itoa(len(text)) + " bytes"
	is(r.t, what, e, want)
	if got != n {
		r.t.Errorf("%s: %d, not %d", what, got, n)
	}
}

func (r *rig) open(a *kern.Table, path string, how, fd int, want api.Errno) {
	r.t.Helper()
	got, e := a.Open("", path, how)
	what := "Open of " + strconv.Quote(path) + ", " + strconv.Itoa(how)
	is(r.t, what, e, want)
	if got != fd {
		r.t.Errorf("%s: %d, not %d", what, got, fd)
	}
}

func (r *rig) fds(a *kern.Table, want ...int) {
	r.t.Helper()
	if l := a.Fds(); !slices.Equal(l, want) {
		r.t.Errorf("Fds: %v, not %v", l, want)
	}
}

func (r *rig) said(sink int, want string) {
	r.t.Helper()
	if b := r.k.Said(sink); string(b) != want {
		r.t.Errorf("Said(%d): %q, not %q", sink, b, want)
	}
}

func (r *rig) used(want int) {
	r.t.Helper()
	if n := r.k.Used(); n != want {
		r.t.Errorf("Used: %d, not %d", n, want)
	}
}

func (r *rig) files(want int) {
	r.t.Helper()
	if n := r.k.Tree().Files(); n != want {
		r.t.Errorf("%d files, not %d", n, want)
	}
}

// next fails, if the next open thing has another number. It makes one.
func (r *rig) next(want int) {
	r.t.Helper()
	if n := r.k.Sink(); n != want {
		r.t.Errorf("the next number is %d, not %d", n, want)
	}
}

// holds fails, if a path's file says something else, or has another tick.
func (r *rig) holds(path, text string, at int) {
	r.t.Helper()
	s, e := r.k.Tree().Stat("", path)
	is(r.t, "Stat of "+path, e, api.OK)
	if b := r.k.Tree().Read(s.Ino, 0, 1<<20); string(b) != text || s.Tick != at {
		r.t.Errorf("%s says %q at the tick %d, not %q at %d", path, b, s.Tick, text, at)
	}
}

// shown is a tree in a text.
func shown(x *tree.Tree) string {
	var s strings.Builder
	for _, n := range x.Dump() {
		s.WriteString(n.Path + " " + strconv.FormatBool(n.Dir) + " 0" + strconv.FormatInt(int64(n.Mode), 8) + " @" + strconv.Itoa(n.Tick))
		s.WriteString(" #" + strconv.Itoa(n.Ino) + " " + strconv.Quote(string(n.Data)) + "\n")
	}
	return s.String() + strconv.Itoa(x.Files()) + " files"
}

// odd are numbers that are no descriptors.
var odd = []int{-1, api.MaxFds, -2, api.MaxFds + 1, math.MaxInt, math.MinInt, 1 << 32, 1 << 40}

// P3.1

func TestNew(t *testing.T) {
	x := tree.New()
	for _, now := range []int{0, 5, -3, math.MaxInt} {
		k := kern.New(x, []api.Fault{{Kind: api.FaultIO}}, now)
		if k.Tree() != x || k.Now() != now || k.Used() != 0 {
			t.Errorf("Tree %v, Now %d, Used %d", k.Tree() == x, k.Now(), k.Used())
		}
		if l := k.Table().Fds(); len(l) != 0 {
			t.Errorf("a new table has %v", l)
		}
		for n := range 3 {
			is(t, call("Put", 0, n), k.Table().Put(0, n), api.ErrInval)
		}
		if k.Table() == k.Table() {
			t.Error("Table has answered one table twice")
		}
	}
}

// Numbers rise from 1 on, whichever call makes things; a call that makes none gives none.
func TestNumbers(t *testing.T) {
	r := newRig(t)
	if n := r.k.Source(nil); n != 1 {
		t.Errorf("Source: %d", n)
	}
	if n := r.k.Sink(); n != 2 {
		t.Errorf("Sink: %d", n)
	}
	if from, to := r.k.Pipe(); from != 3 || to != 4 {
		t.Errorf("Pipe: %d, %d", from, to)
	}
	r.open(r.a, "/f", api.OpenRead, 0, api.OK)
	r.next(6)
	r.open(r.a, "/d", api.OpenRead, 1, api.OK)
	r.next(8)
	r.open(r.a, "/new", api.OpenNew, 2, api.OK)
	r.next(10)
	r.open(r.a, "/nope", api.OpenRead, 0, api.ErrNoEnt)
	r.open(r.a, "/f", api.OpenNew, 0, api.ErrExist)
	r.open(r.a, "/f", 5, 0, api.ErrInval)
	r.put(r.a, 3, 1, api.OK)
	r.dup(r.a, 3, 4, api.OK)
	r.a.Fork()
	r.a.Free()
	r.next(11)
	if from, to := r.k.Pipe(); from != 12 || to != 13 {
		t.Errorf("Pipe: %d, %d", from, to)
	}
	if other := newRig(t); other.k.Source(nil) != 1 {
		t.Error("another kernel has numbers of its own")
	}
}

func TestSource(t *testing.T) {
	r := newRig(t)
	r.put(r.a, 0, r.k.Source([]byte("abc")), api.OK)
	r.put(r.a, 1, r.k.Source(nil), api.OK)
	r.put(r.a, 2, r.k.Source([]byte("x\x00\n\xffy")), api.OK)
	r.read(r.a, 0, 2, "ab", api.OK)
	r.read(r.a, 1, 2, "", api.OK)
	r.read(r.a, 0, 2, "c", api.OK)
	r.read(r.a, 0, 2, "", api.OK)
	r.read(r.a, 0, 2, "", api.OK)
	r.read(r.a, 2, math.MaxInt, "x\x00\n\xffy", api.OK)
}

// A source goes on where it was left, by whatever descriptor it is read, and though none had it meanwhile.
func TestSourceIsOne(t *testing.T) {
	r := newRig(t)
	n := r.k.Source([]byte("abcdef"))
	b := r.k.Table()
	r.put(r.a, 0, n, api.OK)
	r.put(r.a, 7, n, api.OK)
	r.read(r.a, 0, 1, "a", api.OK)
	r.read(r.a, 7, 1, "b", api.OK)
	r.put(b, 3, n, api.OK)
	r.read(b, 3, 1, "c", api.OK)
	r.a.Free()
	b.Free()
	r.put(r.a, 15, n, api.OK)
	r.read(r.a, 15, 9, "def", api.OK)
}

func TestSink(t *testing.T) {
	r := newRig(t)
	n, m := r.k.Sink(), r.k.Sink()
	r.said(n, "")
	r.put(r.a, 1, n, api.OK)
	r.put(r.a, 2, m, api.OK)
	r.write(r.a, 1, "ab", 2, api.OK)
	r.write(r.a, 2, "E", 1, api.OK)
	r.write(r.a, 1, "c", 1, api.OK)
	r.said(n, "abc")
	r.said(n, "abc")
	r.said(m, "E")
	r.a.Free()
	r.said(n, "abc")
	r.put(r.a, 0, n, api.OK)
	long := strings.Repeat("0123456789", api.MaxData)
	r.write(r.a, 0, long, len(long), api.OK)
	r.said(n, "abc"+long)
}

func TestSaidOfOthers(t *testing.T) {
	r := newRig(t)
	r.k.Source([]byte("abc"))
	from, to := r.k.Pipe()
	r.put(r.a, 0, from, api.OK)
	r.put(r.a, 1, to, api.OK)
	r.write(r.a, 1, "xyz", 3, api.OK)
	r.open(r.a, "/f", api.OpenRead, 2, api.OK)
	r.open(r.a, "/d", api.OpenRead, 3, api.OK)
	for _, n := range append([]int{0, 1, 2, 3, 4, 5, 6, 7}, odd...) {
		r.said(n, "")
	}
}

// P3.2

// All that a descriptor can have is put; what is no descriptor, and what is no thing, is not.
func TestPut(t *testing.T) {
	r := newRig(t)
	r.k.Source([]byte("s"))
	r.k.Sink()
	r.k.Pipe()
	r.open(r.a, "/f", api.OpenRead, 0, api.OK)
	r.open(r.a, "/d", api.OpenRead, 1, api.OK)
	b := r.k.Table()
	for what := 1; what <= 6; what++ {
		r.put(b, 0, what, api.OK)
		r.put(b, 15, what, api.OK)
	}
	r.fds(b, 0, 15)
	for _, fd := range odd {
		r.put(b, fd, 1, api.ErrBadFd)
		r.put(b, fd, 99, api.ErrBadFd)
	}
	for _, what := range []int{0, -1, 7, 1000, math.MaxInt, math.MinInt, 1<<32 + 1} {
		r.put(b, 0, what, api.ErrInval)
		r.put(b, 5, what, api.ErrInval)
		r.put(b, 15, what, api.ErrInval)
	}
	r.fds(b, 0, 15)
	r.read(b, 0, 9, "", api.ErrIsDir)
}

// What a descriptor had before it has no more.
func TestPutInsteadOf(t *testing.T) {
	r := newRig(t)
	from, to := r.k.Pipe()
	n, m := r.k.Sink(), r.k.Sink()
	r.put(r.a, 3, from, api.OK)
	r.put(r.a, 4, to, api.OK)
	r.read(r.a, 3, 1, "", api.ErrAgain)
	r.put(r.a, 4, n, api.OK)
	r.read(r.a, 3, 1, "", api.OK)
	r.write(r.a, 4, "x", 1, api.OK)
	r.put(r.a, 4, m, api.OK)
	r.write(r.a, 4, "y", 1, api.OK)
	r.said(n, "x")
	r.said(m, "y")
}

// A file that was let go can't be had again; one that some descriptor has can.
func TestPutOfFile(t *testing.T) {
	r := newRig(t)
	b := r.k.Table()
	r.open(r.a, "/f", api.OpenRead, 0, api.OK)
	r.put(b, 5, 1, api.OK)
	r.read(r.a, 0, 2, "he", api.OK)
	r.read(b, 5, 2, "ll", api.OK)
	r.close(r.a, 0, api.OK)
	r.put(r.a, 1, 1, api.OK)
	r.close(b, 5, api.OK)
	r.read(r.a, 1, 9, "o", api.OK)
	r.close(r.a, 1, api.OK)
	r.put(r.a, 1, 1, api.ErrInval)
	r.put(b, 0, 1, api.ErrInval)
	r.put(b, 16, 1, api.ErrBadFd)
	r.fds(r.a)
	r.fds(b)
}

// A file that is put where it already stands alone is not let go between.
func TestPutOfFileOntoItself(t *testing.T) {
	r := newRig(t)
	r.open(r.a, "/f", api.OpenRead, 0, api.OK)
	is(t, "Remove", r.k.Tree().Remove("", "/f", false), api.OK)
	r.put(r.a, 0, 1, api.OK)
	r.files(2)
	r.read(r.a, 0, 9, "hello", api.OK)
	r.put(r.a, 1, 1, api.OK)
	r.close(r.a, 0, api.OK)
	r.files(2)
	r.close(r.a, 1, api.OK)
	r.files(1)
}

// Each way in which the last descriptor has a file no more lets it go.
func TestLetGo(t *testing.T) {
	for what, last := range map[string]func(r *rig){
		"Close": func(r *rig) { r.close(r.a, 0, api.OK) },
		"Free":  func(r *rig) { r.a.Free() },
		"Put":   func(r *rig) { r.put(r.a, 0, r.k.Sink(), api.OK) },
		"Dup": func(r *rig) {
			r.put(r.a, 4, r.k.Sink(), api.OK)
			r.dup(r.a, 4, 0, api.OK)
		},
	} {
		r := newRig(t)
		r.open(r.a, "/f", api.OpenRead, 0, api.OK)
		b := r.a.Fork()
		is(t, "Remove", r.k.Tree().Remove("", "/f", false), api.OK)
		b.Free()
		r.files(2)
		last(r)
		r.files(1)
		is(t, "Put of a file that was let go by "+what, r.a.Put(9, 1), api.ErrInval)
	}
}

// Things that are no files may be had again, whoever had them.
func TestOthersAreNotLetGo(t *testing.T) {
	r := newRig(t)
	r.k.Source([]byte("s"))
	sink := r.k.Sink()
	from, to := r.k.Pipe()
	r.open(r.a, "/d", api.OpenRead, 0, api.OK)
	for what := 1; what <= 5; what++ {
		r.put(r.a, what, what, api.OK)
	}
	r.write(r.a, to, "kept", 4, api.OK)
	r.write(r.a, sink, "said", 4, api.OK)
	r.a.Free()
	for what := 1; what <= 5; what++ {
		r.put(r.a, what, what, api.OK)
	}
	r.read(r.a, from, 9, "kept", api.OK)
	r.read(r.a, 5, 9, "", api.ErrIsDir)
	r.said(sink, "said")
}

func TestDup(t *testing.T) {
	r := newRig(t)
	r.put(r.a, 0, r.k.Source([]byte("abc")), api.OK)
	r.dup(r.a, 0, 15, api.OK)
	r.dup(r.a, 15, 3, api.OK)
	r.fds(r.a, 0, 3, 15)
	r.read(r.a, 15, 1, "a", api.OK)
	r.read(r.a, 3, 1, "b", api.OK)
	r.read(r.a, 0, 1, "c", api.OK)
	r.dup(r.a, 1, 2, api.ErrBadFd)
	r.dup(r.a, 1, 1, api.ErrBadFd)
	r.dup(r.a, 1, 0, api.ErrBadFd)
	for _, fd := range odd {
		r.dup(r.a, 0, fd, api.ErrBadFd)
		r.dup(r.a, fd, 0, api.ErrBadFd)
		r.dup(r.a, fd, fd, api.ErrBadFd)
	}
	r.fds(r.a, 0, 3, 15)
}

func TestDupInsteadOf(t *testing.T) {
	r := newRig(t)
	from, to := r.k.Pipe()
	r.put(r.a, 0, from, api.OK)
	r.put(r.a, 1, to, api.OK)
	r.dup(r.a, 1, 2, api.OK)
	r.close(r.a, 1, api.OK)
	r.read(r.a, 0, 1, "", api.ErrAgain)
	r.dup(r.a, 0, 2, api.OK)
	r.read(r.a, 2, 1, "", api.OK)
}

func TestDupToItself(t *testing.T) {
	r := newRig(t)
	r.open(r.a, "/f", api.OpenRead, 0, api.OK)
	is(t, "Remove", r.k.Tree().Remove("", "/f", false), api.OK)
	r.dup(r.a, 0, 0, api.OK)
	r.fds(r.a, 0)
	r.files(2)
	r.read(r.a, 0, 9, "hello", api.OK)
	r.close(r.a, 0, api.OK)
	r.files(1)
}

// Two descriptors of one open file have one place; a file that is opened twice has two.
func TestPlaceIsShared(t *testing.T) {
	r := newRig(t)
	r.open(r.a, "/f", api.OpenRead, 0, api.OK)
	r.dup(r.a, 0, 1, api.OK)
	r.open(r.a, "/f", api.OpenRead, 2, api.OK)
	b := r.a.Fork()
	r.read(r.a, 0, 1, "h", api.OK)
	r.read(r.a, 1, 1, "e", api.OK)
	r.read(b, 0, 1, "l", api.OK)
	r.close(r.a, 0, api.OK)
	r.read(b, 1, 1, "l", api.OK)
	r.read(r.a, 2, 2, "he", api.OK)
	r.read(b, 2, 9, "llo", api.OK)
	r.read(r.a, 1, 9, "o", api.OK)

	r.open(r.a, "/n", api.OpenWrite, 0, api.OK)
	r.dup(r.a, 0, 3, api.OK)
	r.write(r.a, 0, "ab", 2, api.OK)
	r.write(r.a, 3, "cd", 2, api.OK)
	r.write(r.a.Fork(), 0, "e", 1, api.OK)
	r.holds("/n", "abcde", tick)
}

func TestClose(t *testing.T) {
	r := newRig(t)
	n := r.k.Sink()
	r.put(r.a, 0, n, api.OK)
	r.put(r.a, 15, n, api.OK)
	r.close(r.a, 15, api.OK)
	r.close(r.a, 15, api.ErrBadFd)
	r.fds(r.a, 0)
	r.close(r.a, 0, api.OK)
	r.close(r.a, 0, api.ErrBadFd)
	r.close(r.a, 7, api.ErrBadFd)
	for _, fd := range odd {
		r.close(r.a, fd, api.ErrBadFd)
	}
	r.fds(r.a)
	r.read(r.a, 0, 1, "", api.ErrBadFd)
	r.write(r.a, 15, "x", 0, api.ErrBadFd)
}

// A forked table has the same things; what is done to the descriptors of one is not done to the other's.
func TestFork(t *testing.T) {
	r := newRig(t)
	from, to := r.k.Pipe()
	r.put(r.a, 0, from, api.OK)
	r.put(r.a, 15, to, api.OK)
	b := r.a.Fork()
	r.fds(b, 0, 15)
	r.close(r.a, 15, api.OK)
	r.fds(r.a, 0)
	r.fds(b, 0, 15)
	r.read(r.a, 0, 1, "", api.ErrAgain)
	r.write(b, 15, "xy", 2, api.OK)
	r.read(r.a, 0, 1, "x", api.OK)
	r.put(b, 3, r.k.Sink(), api.OK)
	r.fds(r.a, 0)
	r.close(b, 15, api.OK)
	r.read(b, 0, 9, "y", api.OK)
	r.read(r.a, 0, 9, "", api.OK)
	r.fds(r.k.Table().Fork())
}

func TestFree(t *testing.T) {
	r := newRig(t)
	from, to := r.k.Pipe()
	for fd := range api.MaxFds - 1 {
		r.put(r.a, fd, from, api.OK)
	}
	r.put(r.a, 15, to, api.OK)
	b := r.a.Fork()
	b.Free()
	r.fds(b)
	r.write(r.a, 15, "x", 1, api.OK)
	b.Free()
	r.put(b, 0, to, api.OK)
	r.a.Free()
	r.fds(r.a)
	r.write(b, 0, "x", 0, api.ErrPipe)
	r.put(r.a, 4, from, api.OK)
	r.fds(r.a, 4)
	r.read(r.a, 4, 9, "x", api.OK)
}

func TestFds(t *testing.T) {
	r := newRig(t)
	n := r.k.Sink()
	r.fds(r.a)
	for _, fd := range []int{15, 3, 0, 9} {
		r.put(r.a, fd, n, api.OK)
	}
	r.fds(r.a, 0, 3, 9, 15)
	r.close(r.a, 3, api.OK)
	r.fds(r.a, 0, 9, 15)
	for fd := range api.MaxFds {
		r.put(r.a, fd, n, api.OK)
	}
	r.fds(r.a, 0, 1, 2, 3, 4, 5, 6, 7, 8, 9, 10, 11, 12, 13, 14, 15)
}

// P3.3

// Of what is opened: its error, and that of a Read and of a Write then.
func TestOpen(t *testing.T) {
	const refused = api.ErrInval
	for _, c := range []struct {
		cwd, path         string
		how               int
		want, read, write api.Errno
	}{
		{"", "/f", 1, api.OK, api.OK, refused},
		{"/d", "g", 1, api.OK, api.OK, refused},
		{"d", "../f", 1, api.OK, api.OK, refused},
		{"", "/d", 1, api.OK, api.ErrIsDir, refused},
		{"", "/", 1, api.OK, api.ErrIsDir, refused},
		{"/d", ".", 1, api.OK, api.ErrIsDir, refused},
		{"", "/d/", 1, api.OK, api.ErrIsDir, refused},
		{"", "/f", 2, api.OK, refused, api.OK},
		{"", "/n", 2, api.OK, refused, api.OK},
		{"/d", "n", 2, api.OK, refused, api.OK},
		{"", "/f", 3, api.OK, refused, api.OK},
		{"", "/n", 3, api.OK, refused, api.OK},
		{"", "/n", 4, api.OK, api.OK, api.OK},
		{"/d", "n", 4, api.OK, api.OK, api.OK},

		{"", "/n", 1, api.ErrNoEnt, 0, 0},
		{"", "", 1, api.ErrNoEnt, 0, 0},
		{"", "/f/", 1, api.ErrNotDir, 0, 0},
		{"", "/f/x", 1, api.ErrNotDir, 0, 0},
		{"", tooLong, 1, api.ErrName, 0, 0},
		{"/f", "/f", 1, api.ErrNotDir, 0, 0},
		{"/n", "/f", 1, api.ErrNoEnt, 0, 0},
		{"", "/d", 2, api.ErrIsDir, 0, 0},
		{"", "/", 2, api.ErrIsDir, 0, 0},
		{"", "/f/", 2, api.ErrNotDir, 0, 0},
		{"", "/f/x", 2, api.ErrNotDir, 0, 0},
		{"", "/n/", 2, api.ErrNotDir, 0, 0},
		{"", "/n/x", 2, api.ErrNoEnt, 0, 0},
		{"", "", 2, api.ErrNoEnt, 0, 0},
		{"", "/d/" + tooLong, 2, api.ErrName, 0, 0},
		{"/n", "/f", 2, api.ErrNoEnt, 0, 0},
		{"/f", "/f", 2, api.ErrNotDir, 0, 0},
		{"", "/d", 3, api.ErrIsDir, 0, 0},
		{"", "/d/.", 3, api.ErrIsDir, 0, 0},
		{"", "/f/", 3, api.ErrNotDir, 0, 0},
		{"", "/n/", 3, api.ErrNotDir, 0, 0},
		{"", "/n/x", 3, api.ErrNoEnt, 0, 0},
		{"", "/\x00", 3, api.ErrName, 0, 0},
		{"", "/f", 4, api.ErrExist, 0, 0},
		{"", "/d", 4, api.ErrExist, 0, 0},
		{"", "/", 4, api.ErrExist, 0, 0},
		{"", "/n/", 4, api.ErrNotDir, 0, 0},
		{"", "/n/x", 4, api.ErrNoEnt, 0, 0},
		{"", "/f/x", 4, api.ErrNotDir, 0, 0},
		{"", tooLong, 4, api.ErrName, 0, 0},

		{"", "/f", 0, api.ErrInval, 0, 0},
		{"", "/f", 5, api.ErrInval, 0, 0},
		{"", "/f", -1, api.ErrInval, 0, 0},
		{"", "/n", math.MaxInt, api.ErrInval, 0, 0},
		{"", "/n", math.MinInt, api.ErrInval, 0, 0},
		{"/n", "/n", 0, api.ErrInval, 0, 0},
		{"", "", 5, api.ErrInval, 0, 0},
	} {
		r := newRig(t)
		was := shown(r.k.Tree())
		what := "Open of " + strconv.Quote(c.cwd) + ", " + strconv.Quote(c.path) + ", " + strconv.Itoa(c.how)
		r.put(r.a, 0, r.k.Sink(), api.OK)
		fd, e := r.a.Open(c.cwd, c.path, c.how)
		is(t, what, e, c.want)
		if c.want != api.OK {
			if now := shown(r.k.Tree()); fd != 0 || now != was {
				t.Errorf("%s: %d, and the tree is\n%s", what, fd, now)
			}
			r.fds(r.a, 0)
			r.next(2)
			continue
		}
		if fd != 1 {
			t.Errorf("%s: %d, not 1", what, fd)
		}
		r.fds(r.a, 0, 1)
		_, e = r.a.Write(fd, []byte("w"))
		is(t, "Write after "+what, e, c.write)
		_, e = r.a.Read(fd, 1)
		is(t, "Read after "+what, e, c.read)
		r.put(r.a, 7, 2, api.OK)
		r.next(3)
	}
}

// The tree after a file was opened, and after it was written to.
func TestOpenToWrite(t *testing.T) {
	for _, c := range []struct {
		path         string
		how, at      int
		before, then string
	}{
		{"/f", 2, tick, "", "xy"},
		{"/n", 2, tick, "", "xy"},
		{"/f", 3, 7, "hello", "helloxy"},
		{"/n", 3, tick, "", "xy"},
		{"/n", 4, tick, "", "xy"},
	} {
		r := newRig(t)
		r.open(r.a, c.path, c.how, 0, api.OK)
		r.holds(c.path, c.before, c.at)
		s, _ := r.k.Tree().Stat("", c.path)
		mode := 0o600
		if c.path == "/n" {
			mode = 0o644
		}
		if s.Mode != mode || s.Dir || s.Links != 1 {
			t.Errorf("%s, %d: %v", c.path, c.how, s)
		}
		r.write(r.a, 0, "x", 1, api.OK)
		r.write(r.a, 0, "y", 1, api.OK)
		r.holds(c.path, c.then, tick)
		r.holds("/d/g", "gg", 7)
	}
}

// A file that is opened to be read keeps its tick, and so does one to which nothing is written.
func TestOpenKeepsTick(t *testing.T) {
	r := newRig(t)
	r.open(r.a, "/f", api.OpenRead, 0, api.OK)
	r.read(r.a, 0, 9, "hello", api.OK)
	r.open(r.a, "/d/g", api.OpenAppend, 1, api.OK)
	r.write(r.a, 1, "", 0, api.OK)
	r.a.Free()
	r.holds("/f", "hello", 7)
	r.holds("/d/g", "gg", 7)
}

func TestOpenLeast(t *testing.T) {
	r := newRig(t)
	r.open(r.a, "/f", 1, 0, api.OK)
	r.open(r.a, "/f", 1, 1, api.OK)
	r.put(r.a, 3, r.k.Sink(), api.OK)
	r.open(r.a, "/d", 1, 2, api.OK)
	r.open(r.a, "/n", 4, 4, api.OK)
	r.close(r.a, 1, api.OK)
	r.close(r.a, 0, api.OK)
	r.open(r.a, "/n", 2, 0, api.OK)
	r.open(r.a, "/n", 3, 1, api.OK)
	r.open(r.a, "/f", 1, 5, api.OK)
	r.open(r.a.Fork(), "/f", 1, 6, api.OK)
	r.open(r.k.Table(), "/f", 1, 0, api.OK)
}

func TestOpenMany(t *testing.T) {
	r := newRig(t)
	for fd := range api.MaxFds {
		r.open(r.a, "/f", 1, fd, api.OK)
	}
	was := shown(r.k.Tree())
	for how := 1; how <= 4; how++ {
		for _, path := range []string{"/f", "/n", "/d", "/nope/x", ""} {
			r.open(r.a, path, how, 0, api.ErrMany)
		}
	}
	r.open(r.a, "/f", 0, 0, api.ErrInval)
	r.open(r.a, "/n", 5, 0, api.ErrInval)
	if now := shown(r.k.Tree()); now != was {
		t.Errorf("the tree is\n%s", now)
	}
	r.next(api.MaxFds + 1)
	r.close(r.a, 9, api.OK)
	r.open(r.a, "/n", 4, 9, api.OK)
	r.open(r.a, "/m", 4, 0, api.ErrMany)
}

// What keeps a file from being made is Make's to tell.
func TestOpenMakesErrors(t *testing.T) {
	var l []api.Node
	path := ""
	for range api.MaxDepth {
		path += "/c"
		l = append(l, api.Node{Path: path, Dir: true})
	}
	for len(l) < api.MaxNodes {
		l = append(l, api.Node{Path: "/" + strconv.Itoa(len(l)), Ino: 1})
	}
	x, e := tree.Load(l)
	is(t, "Load", e, api.OK)
	k := kern.New(x, nil, tick)
	r := &rig{t, k, k.Table()}
	for how := 2; how <= 4; how++ {
		r.open(r.a, path+"/n", how, 0, api.ErrDepth)
		r.open(r.a, "/n", how, 0, api.ErrMany)
		r.open(r.a, "/n/", how, 0, api.ErrNotDir)
	}
	r.open(r.a, "/n", 1, 0, api.ErrNoEnt)
	r.open(r.a, "/99", 4, 0, api.ErrExist)
	r.open(r.a, "/99", 3, 0, api.OK)
	r.open(r.a, "/99", 2, 1, api.OK)
}
