package flow_test

import (
	"strings"
	"testing"

	"toolchest/api"
)

// P7.2

func TestTee(t *testing.T) {
	for _, c := range []struct {
		in, args string
		files    map[string]string
	}{
		{"", "tee", nil},
		{"hi", "tee", nil},
		{"hi", "tee h", map[string]string{"/h": "hi"}},
		{"a\n\nbcdefgh\x00\xff", "tee h", map[string]string{"/h": "a\n\nbcdefgh\x00\xff"}},
		{"hi", "tee f", map[string]string{"/f": "hi"}},
		{"", "tee f h", map[string]string{"/f": "", "/h": ""}},
		{"abcdef", "tee h e d/g", map[string]string{"/h": "abcdef", "/e": "abcdef", "/d/g": "abcdef", "/f": "one\ntwo"}},
		{"abcdef", "tee f f", map[string]string{"/f": "abcdef"}},
		{"abcdef", "tee -", map[string]string{"/-": "abcdef"}},
		{"abcdef", "tee - f -", map[string]string{"/-": "abcdef", "/f": "abcdef"}},
		{"abcdef", "tee -- -a", map[string]string{"/-a": "abcdef"}},
		{"abcdef", "tee f -a", map[string]string{"/-a": "abcdef", "/f": "abcdef"}},
		{"abcdef", "tee --", nil},
		{"hi", "tee -a", nil},
		{"hi", "tee -a f", map[string]string{"/f": "one\ntwohi"}},
		{"hi", "tee -a f h e", map[string]string{"/f": "one\ntwohi", "/h": "hi", "/e": "hi"}},
		{"", "tee -a f h", map[string]string{"/f": "one\ntwo", "/h": ""}},
		{"hi", "tee -aa -a -- f -", map[string]string{"/f": "one\ntwohi", "/-": "hi"}},
	} {
		for buf := 1; buf < 12; buf++ {
			j := job(c.in, c.args)
			j.Lim = lim(buf)
			r := comes(t, j, c.in, "", 0)
			for path, want := range c.files {
				says(t, r, path, want)
			}
			if c.files == nil {
				treeStays(t, j, r)
			}
		}
	}
}

// Chunk by chunk: one file that is appended to twice has each chunk twice.
func TestTeeByChunks(t *testing.T) {
	says(t, comes(t, job("hi", "tee -a f f"), "hi", "", 0), "/f", "one\ntwohihi")
	says(t, comes(t, job("abcdef", "tee -a e e"), "abcdef", "", 0), "/e", "abcdabcdefef")
	j := job("abc", "tee -a e e e")
	j.Lim = lim(1)
	says(t, comes(t, j, "abc", "", 0), "/e", "aaabbbccc")
}

func TestTeeNodes(t *testing.T) {
	for _, c := range []struct {
		in, args, path string
		mode, tick     int
	}{
		{"q", "tee h", "/h", 0o644, now},
		{"", "tee h", "/h", 0o644, now},
		{"", "tee -a h", "/h", 0o644, now},
		{"q", "tee f", "/f", 0o600, now},
		{"", "tee f", "/f", 0o600, now}, // it was emptied
		{"q", "tee -a f", "/f", 0o600, now},
		{"", "tee -a f", "/f", 0o600, 7}, // nothing was written
	} {
		n, ok := nodeOf(run(t, job(c.in, c.args)).Nodes, c.path)
		if !ok || n.Mode != c.mode || n.Tick != c.tick {
			t.Errorf("%s, In %q: %v, %v", c.args, c.in, n, ok)
		}
	}
}

// F4: nothing is opened.
func TestTeeUsage(t *testing.T) {
	for _, args := range []string{"tee -x f", "tee -ax f h", "tee -xa f", "tee -a -u f", "tee --a f", "tee -A"} {
		refuses(t, args)
	}
}

func TestTeeFilesThatCantBeOpened(t *testing.T) {
	for _, a := range []string{"", "-a "} {
		comes(t, job("hi", "tee "+a+"d"), "hi", "tee: d: is a directory\n", 1)
		r := comes(t, job("abcdef", "tee "+a+"x/y e f/h h d"), "abcdef", "tee: x/y: no such file\ntee: f/h: not a directory\ntee: d: is a directory\n", 1)
		says(t, r, "/e", "abcdef")
		says(t, r, "/h", "abcdef")
		j := job("", "tee "+a+"h")
		j.Args = append(j.Args, "", strings.Repeat("n", 33))
		comes(t, j, "", "tee: no such file\ntee: "+strings.Repeat("n", 33)+": bad name\n", 1)
	}
}

// Thirteen descriptors are left to files.
func TestTeeTooManyFiles(t *testing.T) {
	j := job("abcdef", "tee")
	for _, c := range "ABCDEFGHIJKLMNO" {
		j.Args = append(j.Args, string(c))
	}
	r := comes(t, j, "abcdef", "tee: N: too many\ntee: O: too many\n", 1)
	for _, c := range "ABCDEFGHIJKLM" {
		says(t, r, "/"+string(c), "abcdef")
	}
	if _, ok := nodeOf(r.Nodes, "/N"); ok {
		t.Error("N was made")
	}
}

// Files are opened, and those that can't be are told, ahead of the first Read.
func TestTeeOpensFirst(t *testing.T) {
	r := comes(t, faulty("abcdef", "tee f x/y d", "..e"), "", "tee: x/y: no such file\ntee: d: is a directory\ntee: -: input/output error\n", 1)
	says(t, r, "/f", "")
	r = comes(t, faulty("abcdef", "tee -a f h", "e"), "", "tee: -: input/output error\n", 1)
	says(t, r, "/f", "one\ntwo")
	says(t, r, "/h", "")
}

// Transfers are, of each chunk: a Read, a Write to the descriptor 1, one to each file in order, and a line about each that fails, at once.
func TestTeeOutputsThatFail(t *testing.T) {
	const in = "abcdef"
	for _, c := range []struct {
		signs, out, errs string
		f, h             string
	}{
		{"", in, "", in, in},
		{".e", "", "tee: standard output: input/output error\n", in, in},
		{".p", "", "tee: standard output: broken pipe\n", in, in},
		{".2is", "ab", "tee: standard output: no space left\n", in, in},
		{"..e", in, "tee: f: input/output error\n", "", in},
		{"..1e", in, "tee: f: input/output error\n", "a", in},
		{"...s", in, "tee: h: no space left\n", in, ""},
		{"...3s", in, "tee: h: no space left\n", in, "abc"},
		{".....e", "abcd", "tee: standard output: input/output error\n", in, in},
		{"......e", in, "tee: f: input/output error\n", "abcd", in},
		{".......1p", in, "tee: h: broken pipe\n", in, "abcde"},
		{".e.e", "", "tee: standard output: input/output error\ntee: f: input/output error\n", "", in},
		{".e..e", "", "tee: standard output: input/output error\ntee: h: input/output error\n", in, ""},
		{"..s.s", in, "tee: f: no space left\ntee: h: no space left\n", "", ""},
		{".e.e.e", "", "tee: standard output: input/output error\ntee: f: input/output error\ntee: h: input/output error\n", "", ""},
		{".e.e.e.e", "", "tee: standard output: input/output error\ntee: f: input/output error\ntee: h: input/output error\ntee: -: input/output error\n", "", ""},
		{".ee", "", "", in, in}, // F3
	} {
		r := comes(t, faulty(in, "tee f h", c.signs), c.out, c.errs, min(1, len(c.signs)))
		says(t, r, "/f", c.f)
		says(t, r, "/h", c.h)
	}
}

// A file that is full.
func TestTeeFullFile(t *testing.T) {
	long := strings.Repeat("x", api.MaxData-2)
	j := job("abcdefgh", "tee -a e big h")
	j.Nodes = append(j.Nodes, file("/big", long))
	r := comes(t, j, "abcdefgh", "tee: big: no space left\n", 1)
	says(t, r, "/big", long+"ab")
	says(t, r, "/e", "abcdefgh")
	says(t, r, "/h", "abcdefgh")
	j = job(long+"abcd", "tee h")
	r = comes(t, j, long+"abcd", "tee: h: no space left\n", 1)
	says(t, r, "/h", long+"ab")
}

func TestTeeReadsThatFail(t *testing.T) {
	for _, c := range []struct{ signs, out string }{
		{"e", ""},
		{"ie", ""},
		{"....e", "abcd"},
		{"2...ie", "ab"},
		{"........e", "abcdef"},
	} {
		r := comes(t, faulty("abcdef", "tee f h", c.signs), c.out, "tee: -: input/output error\n", 1)
		says(t, r, "/f", c.out)
		says(t, r, "/h", c.out)
	}
}

// Descriptors that have something else, or nothing.
func TestTeeDescriptors(t *testing.T) {
	r := newRig(t, job("q", "tee"))
	r.p.Table().Close(0)
	r.ends("", "tee: -: bad descriptor\n", 1)
	r = newRig(t, job("q", "tee f"))
	r.put(0, r.k.Sink())
	says(t, r.ends("", "tee: -: invalid\n", 1), "/f", "")
	r = newRig(t, job("abcdef", "tee f h"))
	r.put(1, r.k.Source(nil))
	got := r.ends("", "tee: standard output: invalid\n", 1)
	says(t, got, "/f", "abcdef")
	says(t, got, "/h", "abcdef")
	r = newRig(t, job("abcdef", "tee"))
	r.p.Table().Close(1)
	r.ends("", "tee: standard output: bad descriptor\n", 1)
	r = newRig(t, job("abcdef", "tee h d"))
	r.put(2, r.k.Source(nil))
	says(t, r.ends("abcdef", "", 1), "/h", "abcdef")
}

func TestTeeCwd(t *testing.T) {
	j := job("hi", "tee g ../e ./-")
	j.Cwd = "/d"
	r := comes(t, j, "hi", "", 0)
	says(t, r, "/d/g", "hi")
	says(t, r, "/e", "hi")
	says(t, r, "/d/-", "hi")
}
