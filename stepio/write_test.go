package stepio_test

import (
	"slices"
	"strings"
	"testing"

	"toolchest/api"
	"toolchest/kern"
	"toolchest/proc"
	"toolchest/stepio"
	"toolchest/tree"
)

// runMain runs what a process does by a job of these faults.
func runMain(t *testing.T, signs string, main func(p *proc.Proc)) api.Result {
	t.Helper()
	j := job("in", "u")
	j.Faults = faults(signs)
	r, ok := proc.Run(j, func(p *proc.Proc) *proc.Machine {
		return proc.Go(p, func(p *proc.Proc) int {
			main(p)
			return 0
		})
	})
	if !ok {
		t.Fatal("a job that may be was not run")
	}
	return r
}

// P5.3

func TestWrite(t *testing.T) {
	for _, c := range []struct {
		fd     int
		b      string
		signs  string
		want   api.Errno
		told   string
		writes int
	}{
		{1, "", "e", api.OK, "", 0},
		{1, "abc", "", api.OK, "abc", 1},
		{1, "a\n\x00\xff", "", api.OK, "a\n\x00\xff", 1},
		{1, "abc", "111", api.OK, "abc", 3},
		{1, "abc", "0", api.OK, "abc", 2},
		{1, "abc", "2", api.OK, "abc", 2},
		{1, "abc", "9", api.OK, "abc", 1},
		{1, "abc", "i", api.OK, "abc", 2},
		{1, "abc", "i1i1i1i", api.OK, "abc", 6},
		{1, "abc", "e", api.ErrIO, "", 1},
		{1, "abc", "s", api.ErrNoSpace, "", 1},
		{1, "abc", "p", api.ErrPipe, "", 1},
		{1, "abc", "1e", api.ErrIO, "a", 2},
		{1, "abc", "1i1s", api.ErrNoSpace, "ab", 4},
		{1, "abc", "iip", api.ErrPipe, "", 3},
		{0, "abc", "", api.ErrInval, "", 1},
		{0, "", "", api.OK, "", 0},
		{9, "abc", "", api.ErrBadFd, "", 1},
		{9, "", "", api.OK, "", 0},
		{-1, "abc", "", api.ErrBadFd, "", 1},
	} {
		var got api.Errno
		r := runMain(t, c.signs, func(p *proc.Proc) { got = stepio.Write(p, c.fd, []byte(c.b)) })
		if got != c.want || string(r.Out) != c.told || r.Steps != c.writes || r.Peak != 0 {
			t.Errorf("%d, %q, faults %q: error %d, told %q, %d Writes, %d held", c.fd, c.b, c.signs, got, r.Out, r.Steps, r.Peak)
		}
	}
}

// A file that becomes too great, by a Write that is cut short and one that fails.
func TestWriteUntilThereIsNoSpace(t *testing.T) {
	var got api.Errno
	r := runMain(t, "", func(p *proc.Proc) {
		fd, _ := p.Open("/n", api.OpenNew)
		got = stepio.Write(p, fd, make([]byte, api.MaxData+1))
	})
	n := slices.IndexFunc(r.Nodes, func(n api.Node) bool { return n.Path == "/n" })
	if got != api.ErrNoSpace || len(r.Nodes[n].Data) != api.MaxData || r.Steps != 3 {
		t.Errorf("error %d, %d bytes, %d steps", got, len(r.Nodes[n].Data), r.Steps)
	}
}

// R4: what is to be written is neither changed nor kept: also where a later step writes it.
func TestWriteKeepsNothing(t *testing.T) {
	x, _ := tree.Load(nil)
	k := kern.New(x, faults("1i"), 0)
	p := proc.New(k, []string{"u"}, nil, "/", lim(1, 1))
	out := k.Sink()
	p.Table().Put(1, out)
	m := proc.Go(p, func(p *proc.Proc) int {
		b := []byte("abc..")
		stepio.Write(p, 1, b[:3])
		if string(b) != "abc.." {
			return 1
		}
		scribble(b)
		p.Close(9)
		return 0
	})
	for !m.Step() {
	}
	if s := string(k.Said(out)); s != "abc" || m.Status() != 0 {
		t.Errorf("told %q, %d", s, m.Status())
	}
}

func TestSay(t *testing.T) {
	for _, c := range []struct {
		operand string
		e       api.Errno
		signs   string
		want    string
		steps   int
	}{
		{"x", api.ErrNoEnt, "", "u: x: no such file\n", 1},
		{"", api.ErrUsage, "", "u: usage\n", 1},
		{"-", api.ErrLine, "i1", "u: -: line too long\n", 3},
		{"x y", 99, "", "u: x y: error\n", 1},
		{"x", api.OK, "", "u: x: error\n", 1},
		{"x", api.ErrIO, "e", "", 1},
		{"x", api.ErrIO, "3s", "u: ", 2},
		{"x", api.ErrIO, "p", "", 1},
	} {
		r := runMain(t, c.signs, func(p *proc.Proc) { stepio.Say(p, c.operand, c.e) })
		if string(r.Err) != c.want || len(r.Out) > 0 || r.Steps != c.steps {
			t.Errorf("%q, %d, faults %q: said %q, told %q, %d steps", c.operand, c.e, c.signs, r.Err, r.Out, r.Steps)
		}
	}
}

// Where there is no descriptor 2, nothing is said, and nothing else happens.
func TestSayWithoutADescriptor(t *testing.T) {
	r := newRig(t, "", lim(4, 5), "")
	r.p.Close(2)
	stepio.Say(r.p, "x", api.ErrIO)
	r.said("", "")
	r.p.Table().Put(2, r.k.Source([]byte("q")))
	stepio.Say(r.p, "x", api.ErrIO)
	r.said("", "")
}

func TestSayOfAProcessWithoutAName(t *testing.T) {
	r := newRig(t, "", lim(4, 5), "")
	p := proc.New(r.k, nil, nil, "/", lim(4, 5))
	p.Table().Put(2, r.errs)
	stepio.Say(p, "x", api.ErrIO)
	r.said("", ": x: input/output error\n")
}

func TestOpen(t *testing.T) {
	for _, c := range []struct {
		operand string
		fd      int
		want    api.Errno
		steps   int
	}{
		{"-", 0, api.OK, 0},
		{"/f", 3, api.OK, 1},
		{"./f", 3, api.OK, 1},
		{"d/g", 3, api.OK, 1},
		{"/d", 3, api.OK, 1},
		{"./-", 0, api.ErrNoEnt, 1},
		{"--", 0, api.ErrNoEnt, 1},
		{"x", 0, api.ErrNoEnt, 1},
		{"", 0, api.ErrNoEnt, 1},
		{"f/g", 0, api.ErrNotDir, 1},
	} {
		var fd int
		var e api.Errno
		r := runMain(t, "", func(p *proc.Proc) { fd, e = stepio.Open(p, c.operand) })
		if fd != c.fd || e != c.want || r.Steps != c.steps {
			t.Errorf("%q: %d, error %d, %d steps", c.operand, fd, e, r.Steps)
		}
		if len(r.Nodes) != len(nodes()) {
			t.Errorf("%q: there are other files than before", c.operand)
		}
	}
}

// It is opened to be read, in the process's directory; - is the descriptor 0 also where that has nothing.
func TestOpenToBeRead(t *testing.T) {
	r := newRig(t, "", lim(4, 5), "")
	fd, _ := stepio.Open(r.p, "g")
	if b, e := r.p.Read(fd, 9); string(b) != "gg\n" || e != api.OK {
		t.Errorf("%q, error %d", b, e)
	}
	_, e := r.p.Write(fd, []byte("x"))
	r.is("a Write of an input", e, api.ErrInval)
	r.p.Close(0)
	fd, e = stepio.Open(r.p, "-")
	if fd != 0 || e != api.OK {
		t.Errorf("- without a descriptor 0: %d, error %d", fd, e)
	}
}

func TestOpenTooMany(t *testing.T) {
	r := newRig(t, "", lim(4, 5), "")
	for range api.MaxFds - 3 {
		_, e := stepio.Open(r.p, "g")
		r.is("Open", e, api.OK)
	}
	fd, e := stepio.Open(r.p, "g")
	if fd != 0 || e != api.ErrMany {
		t.Errorf("one too many: %d, error %d", fd, e)
	}
	fd, e = stepio.Open(r.p, "-")
	if fd != 0 || e != api.OK {
		t.Errorf("-, which opens nothing: %d, error %d", fd, e)
	}
}

func TestClose(t *testing.T) {
	for _, c := range []struct {
		fd    int
		steps int
		left  []int
	}{
		{0, 0, []int{0, 1, 2, 3}},
		{3, 1, []int{0, 1, 2}},
		{1, 1, []int{0, 2, 3}},
		{9, 1, []int{0, 1, 2, 3}},
		{-1, 1, []int{0, 1, 2, 3}},
		{16, 1, []int{0, 1, 2, 3}},
	} {
		var left []int
		r := runMain(t, "", func(p *proc.Proc) {
			p.Open("/f", api.OpenRead)
			stepio.Close(p, c.fd)
			left = p.Table().Fds()
		})
		if !slices.Equal(left, c.left) || r.Steps != 1+c.steps {
			t.Errorf("%d: %v are left, %d steps", c.fd, left, r.Steps)
		}
	}
}

// A pipe takes what it has room for; a process that writes more waits until it is read.
func TestWriteToAPipe(t *testing.T) {
	x, _ := tree.Load(nil)
	k := kern.New(x, nil, 0)
	p := proc.New(k, []string{"u"}, nil, "/", lim(1, 1))
	from, to := k.Pipe()
	p.Table().Put(1, to)
	other := k.Table()
	other.Put(0, from)
	b := []byte(strings.Repeat("0123456789", 20))
	m := proc.Go(p, func(p *proc.Proc) int { return int(stepio.Write(p, 1, b)) })
	var got []byte
	for !m.Step() {
		if m.Steps()%3 == 0 { // meanwhile it asks in vain
			piece, _ := other.Read(0, 50)
			got = append(got, piece...)
		}
	}
	rest, _ := other.Read(0, 100)
	if got = append(got, rest...); string(got) != string(b) || m.Status() != 0 {
		t.Errorf("%q, %d", got, m.Status())
	}
}
