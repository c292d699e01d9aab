package tree_test

import (
	"math"
	"slices"
	"strconv"
	"strings"
	"testing"

	"toolchest/api"
	"toolchest/tree"
)

var (
	longest = strings.Repeat("n", api.MaxName)
	tooLong = strings.Repeat("n", api.MaxName+1)
)

// grown is a tree with these entries: a directory, if the text ends with `/`; one more name of a file, if it is NEW=OLD; else a file that says its path.
func grown(t *testing.T, entries ...string) *tree.Tree {
	t.Helper()
	x := tree.New()
	for _, s := range entries {
		path, old, isLink := strings.Cut(s, "=")
		if isLink {
			must(t, "Link "+s, x.Link("", old, path))
			continue
		}
		ino, e := x.Make("", path, strings.HasSuffix(path, "/"), 0o644, 7)
		must(t, "Make "+s, e)
		x.Write(ino, 0, []byte(path), 7)
	}
	return x
}

// usual is a tree in which most paths of these tests lead somewhere.
func usual(t *testing.T) *tree.Tree {
	return grown(t, "/d/", "/d/e/", "/d/e/f", "/d/g", "/z/", "/f", "/h=/f", "/"+longest)
}

func must(t *testing.T, what string, e api.Errno) {
	t.Helper()
	if e != api.OK {
		t.Fatalf("%s: error %d", what, e)
	}
}

// is fails, if an error is another one than that.
func is(t *testing.T, what string, got, want api.Errno) {
	t.Helper()
	if got != want {
		t.Errorf("%s: error %d, not %d", what, got, want)
	}
}

// shown are a tree's nodes, a line each.
func shown(l []api.Node) string {
	var s strings.Builder
	for _, n := range l {
		s.WriteString(n.Path)
		if n.Dir {
			s.WriteString("/")
		}
		s.WriteString(" 0" + strconv.FormatInt(int64(n.Mode), 8) + " @" + strconv.Itoa(n.Tick))
		s.WriteString(" #" + strconv.Itoa(n.Ino) + " " + strconv.Quote(string(n.Data)) + "\n")
	}
	return s.String()
}

// same fails, if a tree is dumped otherwise than it was.
func same(t *testing.T, what string, x *tree.Tree, was string) {
	t.Helper()
	if now := shown(x.Dump()); now != was {
		t.Errorf("%s: the tree was\n%sand is\n%s", what, was, now)
	}
}

// dir, file are nodes to load.
func dir(path string) api.Node { return api.Node{Path: path, Dir: true, Mode: 0o755} }

func file(path string, ino int, data string) api.Node {
	return api.Node{Path: path, Mode: 0o644, Tick: 3, Ino: ino, Data: []byte(data)}
}

// chain are n directories, each within the one ahead of it.
func chain(n int) []api.Node {
	var l []api.Node
	path := ""
	for range n {
		path += "/c"
		l = append(l, dir(path))
	}
	return l
}

// P2.1

func TestNew(t *testing.T) {
	x := tree.New()
	if l := x.Dump(); len(l) != 0 {
		t.Errorf("a new tree has %v", l)
	}
	if n := x.Files(); n != 0 {
		t.Errorf("a new tree has %d files", n)
	}
	for _, path := range []string{"/", "//", ".", "..", "./", "../..", "/.././"} {
		s, e := x.Stat("", path)
		if want := (api.Stat{Ino: 1, Dir: true, Mode: 0o755, Links: 1}); s != want || e != api.OK {
			t.Errorf("Stat of %q: %v, error %d", path, s, e)
		}
	}
	if other := tree.New(); other == x {
		t.Error("New has answered one tree twice")
	}
}

func TestLoad(t *testing.T) {
	var many []api.Node
	for i := range api.MaxNodes {
		many = append(many, file("/"+strconv.Itoa(i), 1, "one"))
	}
	deep := chain(api.MaxDepth)
	for _, c := range []struct {
		what string
		l    []api.Node
		want api.Errno
	}{
		{"nothing", nil, api.OK},
		{"a file", []api.Node{file("/a", 0, "x")}, api.OK},
		{"a longest name", []api.Node{dir("/" + longest)}, api.OK},
		{"odd names", []api.Node{dir("/..."), dir("/.a"), dir("/ "), dir("/\n\xff")}, api.OK},
		{"a path within", []api.Node{dir("/a"), dir("/a/b"), file("/a/b/c", 0, "")}, api.OK},
		{"the mode 0", []api.Node{{Path: "/a"}}, api.OK},
		{"the mode 0777", []api.Node{{Path: "/a", Mode: 0o777}}, api.OK},
		{"a tick below 0", []api.Node{{Path: "/a", Tick: -1}}, api.OK},
		{"a directory with empty data", []api.Node{{Path: "/a", Dir: true, Data: []byte{}}}, api.OK},
		{"two of one file", []api.Node{file("/a", 9, "x"), file("/b", 9, "x")}, api.OK},
		{"two of one empty file", []api.Node{{Path: "/a", Ino: 1}, {Path: "/b", Ino: 1, Data: []byte{}}}, api.OK},
		{"two files without Ino", []api.Node{file("/a", 0, "x"), file("/b", 0, "y")}, api.OK},
		{"200 nodes", many, api.OK},
		{"depth 10", deep, api.OK},

		{"no path", []api.Node{dir("")}, api.ErrArg},
		{"the root", []api.Node{dir("/")}, api.ErrArg},
		{"no stroke ahead", []api.Node{dir("a")}, api.ErrArg},
		{"two strokes ahead", []api.Node{dir("//a")}, api.ErrArg},
		{"a stroke behind", []api.Node{dir("/a/")}, api.ErrArg},
		{"a stroke for another one ahead", []api.Node{dir("/a"), dir("a/b/")}, api.ErrArg},
		{"two strokes between", []api.Node{dir("/a"), dir("/a//b")}, api.ErrArg},
		{"a dot", []api.Node{dir("/.")}, api.ErrArg},
		{"a dot within", []api.Node{dir("/a"), dir("/a/./b")}, api.ErrArg},
		{"two dots", []api.Node{dir("/..")}, api.ErrArg},
		{"two dots within", []api.Node{dir("/a"), dir("/a/../b")}, api.ErrArg},
		{"a byte 0", []api.Node{dir("/a\x00")}, api.ErrArg},
		{"too long a name", []api.Node{dir("/" + tooLong)}, api.ErrArg},
		{"a mode below 0", []api.Node{{Path: "/a", Mode: -1}}, api.ErrArg},
		{"the mode 01000", []api.Node{{Path: "/a", Mode: 0o1000}}, api.ErrArg},
		{"a directory of the mode 01000", []api.Node{{Path: "/a", Dir: true, Mode: 0o1000}}, api.ErrArg},
		{"no parent", []api.Node{file("/a/b", 0, "")}, api.ErrArg},
		{"a parent behind", []api.Node{file("/a/b", 0, ""), dir("/a")}, api.ErrArg},
		{"a parent that is a file", []api.Node{file("/a", 0, ""), file("/a/b", 0, "")}, api.ErrArg},
		{"a name that is there", []api.Node{dir("/a"), dir("/a")}, api.ErrArg},
		{"a file's name that is there", []api.Node{file("/a", 1, "x"), file("/a", 1, "x")}, api.ErrArg},
		{"the 201st", append(slices.Clone(many), file("/more", 1, "one")), api.ErrArg},
		{"depth 11", append(slices.Clone(deep), file(deep[9].Path+"/f", 0, "")), api.ErrArg},
		{"a directory with data", []api.Node{{Path: "/a", Dir: true, Data: []byte("x")}}, api.ErrArg},
		{"a directory with an Ino", []api.Node{{Path: "/a", Dir: true, Ino: 1}}, api.ErrArg},
		{"a directory with an Ino below 0", []api.Node{{Path: "/a", Dir: true, Ino: -1}}, api.ErrArg},
		{"a file with an Ino below 0", []api.Node{{Path: "/a", Ino: -1}}, api.ErrArg},
		{"one file, other data", []api.Node{file("/a", 9, "x"), file("/b", 9, "y")}, api.ErrArg},
		{"one file, more data", []api.Node{file("/a", 9, "x"), file("/b", 9, "xy")}, api.ErrArg},
		{"one file, another mode", []api.Node{{Path: "/a", Ino: 9}, {Path: "/b", Ino: 9, Mode: 1}}, api.ErrArg},
		{"one file, another tick", []api.Node{{Path: "/a", Ino: 9}, {Path: "/b", Ino: 9, Tick: 1}}, api.ErrArg},
		{"a fault behind good ones", []api.Node{dir("/a"), dir("/b"), dir("c")}, api.ErrArg},
	} {
		x, e := tree.Load(c.l)
		is(t, "Load of "+c.what, e, c.want)
		if (x == nil) != (c.want != api.OK) {
			t.Errorf("Load of %s: the tree is %v", c.what, x)
		}
		if x != nil && len(x.Dump()) != len(c.l) {
			t.Errorf("Load of %s: %d of %d nodes", c.what, len(x.Dump()), len(c.l))
		}
	}
}

// Numbers are given in the order of the nodes, and one to all nodes of one file.
func TestLoadNumbers(t *testing.T) {
	x, e := tree.Load([]api.Node{dir("/z"), file("/b", 50, "b"), file("/z/c", 50, "b"), file("/a", 0, "a"), file("/q", 0, "a")})
	must(t, "Load", e)
	for path, want := range map[string]int{"/": 1, "/z": 2, "/b": 3, "/z/c": 3, "/a": 4, "/q": 5} {
		if n, e := x.Find("", path); n != want || e != api.OK {
			t.Errorf("Find of %s: %d, error %d, not %d", path, n, e, want)
		}
	}
	if n := x.Files(); n != 3 {
		t.Errorf("%d files, not 3", n)
	}
	s, _ := x.Stat("", "/b")
	if want := (api.Stat{Ino: 3, Mode: 0o644, Tick: 3, Size: 1, Links: 2}); s != want {
		t.Errorf("Stat: %v, not %v", s, want)
	}
	if n, _ := x.Make("", "/new", false, 0, 0); n != 6 {
		t.Errorf("the next number is %d, not 6", n)
	}
	s, _ = x.Stat("", "/")
	if want := (api.Stat{Ino: 1, Dir: true, Mode: 0o755, Links: 1}); s != want {
		t.Errorf("Stat of the root: %v, not %v", s, want)
	}
}

// P2.2

func TestDump(t *testing.T) {
	x := grown(t, "/b", "/a/", "/a/x", "/a-b", "/a.b", "/a0", "/Z=/b", "/a/y=/b", "/a/x2=/a/x", "/\xff", "/é/")
	want := `/Z 0644 @7 #1 "/b"
/a/ 0644 @7 #0 ""
/a-b 0644 @7 #3 "/a-b"
/a.b 0644 @7 #4 "/a.b"
/a/x 0644 @7 #5 "/a/x"
/a/x2 0644 @7 #5 "/a/x"
/a/y 0644 @7 #1 "/b"
/a0 0644 @7 #8 "/a0"
/b 0644 @7 #1 "/b"
` + "/é/ 0644 @7 #0 \"\"\n/\xff 0644 @7 #11 \"/\\xff\"\n"
	same(t, "Dump", x, want)
}

// A file without a name is not told, though it is held.
func TestDumpOfHeld(t *testing.T) {
	x := grown(t, "/a", "/b")
	x.Hold(2)
	must(t, "Remove", x.Remove("", "/a", false))
	same(t, "Dump", x, "/b 0644 @7 #1 \"/b\"\n")
}

// P2.3

func TestPaths(t *testing.T) {
	for _, c := range []struct {
		cwd, path string
		ino       int
		want      api.Errno
	}{
		{"", "/", 1, api.OK},
		{"", ".", 1, api.OK},
		{"", "..", 1, api.OK},
		{"", "d", 2, api.OK},
		{"", "/d", 2, api.OK},
		{"", "//d//", 2, api.OK},
		{"", "d/.", 2, api.OK},
		{"", "d/e/..", 2, api.OK},
		{"", "d/../d/./e", 3, api.OK},
		{"", "d/e/../../..", 1, api.OK},
		{"/d", "e", 3, api.OK},
		{"d", "e", 3, api.OK},
		{"d/", "e", 3, api.OK},
		{"//d//e/..", "e/", 3, api.OK},
		{"/d/e", "..", 2, api.OK},
		{"/d/e", "../..", 1, api.OK},
		{"/d/e", "f", 4, api.OK},
		{"/d/e", "/f", 7, api.OK},
		{"/", "h", 7, api.OK},
		{".", "d//g", 5, api.OK},
		{"..", longest, 8, api.OK},

		{"", "", 0, api.ErrNoEnt},
		{"/d", "", 0, api.ErrNoEnt},
		{"", "nope", 0, api.ErrNoEnt},
		{"", "nope/", 0, api.ErrNoEnt},
		{"", "d/nope/" + tooLong, 0, api.ErrNoEnt},
		{"", "nope/..", 0, api.ErrNoEnt},
		{"/d", "d", 0, api.ErrNoEnt},
		{"", "f/", 0, api.ErrNotDir},
		{"", "f//", 0, api.ErrNotDir},
		{"", "f/.", 0, api.ErrNotDir},
		{"", "f/..", 0, api.ErrNotDir},
		{"", "f/nope", 0, api.ErrNotDir},
		{"", "f/" + tooLong, 0, api.ErrNotDir},
		{"", tooLong, 0, api.ErrName},
		{"", tooLong + "/x", 0, api.ErrName},
		{"", "a\x00", 0, api.ErrName},
		{"", "d/\x00/nope", 0, api.ErrName},

		{"/nope", "/", 0, api.ErrNoEnt},
		{"nope", "/d", 0, api.ErrNoEnt},
		{"nope", "", 0, api.ErrNoEnt},
		{"/f", "/d", 0, api.ErrNotDir},
		{"/f/", "/d", 0, api.ErrNotDir},
		{"/f", "", 0, api.ErrNotDir},
		{"/f/..", "/d", 0, api.ErrNotDir},
		{"/f", tooLong, 0, api.ErrNotDir},
		{tooLong, "/d", 0, api.ErrName},
		{"/\x00", "", 0, api.ErrName},
	} {
		x := usual(t)
		what := strconv.Quote(c.cwd) + ", " + strconv.Quote(c.path)
		n, e := x.Find(c.cwd, c.path)
		is(t, "Find of "+what, e, c.want)
		if n != c.ino {
			t.Errorf("Find of %s: %d, not %d", what, n, c.ino)
		}
		s, e := x.Stat(c.cwd, c.path)
		is(t, "Stat of "+what, e, c.want)
		if s.Ino != c.ino || c.want != api.OK && s != (api.Stat{}) {
			t.Errorf("Stat of %s: %v", what, s)
		}
		is(t, "Mode of "+what, x.Mode(c.cwd, c.path, 0), c.want)
		is(t, "Touch of "+what, x.Touch(c.cwd, c.path, 0), c.want)
		if c.want != api.OK || s.Dir {
			l, e := x.List(c.cwd, c.path)
			is(t, "List of "+what, e, c.want)
			if c.want != api.OK && len(l) != 0 {
				t.Errorf("List of %s: %q beside an error", what, l)
			}
		}
	}
}

func TestStat(t *testing.T) {
	x := usual(t)
	for path, want := range map[string]api.Stat{
		"/d":   {Ino: 2, Dir: true, Mode: 0o644, Tick: 7, Links: 1},
		"/d/g": {Ino: 5, Mode: 0o644, Tick: 7, Size: 4, Links: 1},
		"/f":   {Ino: 7, Mode: 0o644, Tick: 7, Size: 2, Links: 2},
		"/h":   {Ino: 7, Mode: 0o644, Tick: 7, Size: 2, Links: 2},
	} {
		if s, e := x.Stat("", path); s != want || e != api.OK {
			t.Errorf("Stat of %s: %v, error %d, not %v", path, s, e, want)
		}
	}
}

func TestList(t *testing.T) {
	x := grown(t, "/b", "/a/", "/a/x", "/a-b", "/.h", "/A", "/a0=/b", "/\xff", "/e/")
	for path, want := range map[string][]string{
		"/":  {".h", "A", "a", "a-b", "a0", "b", "e", "\xff"},
		"/a": {"x"},
		"/e": {},
	} {
		if l, e := x.List("", path); !slices.Equal(l, want) || e != api.OK {
			t.Errorf("List of %s: %q, error %d, not %q", path, l, e, want)
		}
	}
	l, e := x.List("", "/b")
	is(t, "List of a file", e, api.ErrNotDir)
	if len(l) != 0 {
		t.Errorf("List of a file: %q", l)
	}
}

// P2.4

// naming are errors that all calls that make or change a name have first; where none tells which of the two it is, it is the one of its call.
var naming = []struct {
	cwd, path string
	want      api.Errno
}{
	{"/f", "", api.ErrNotDir},
	{"/f", "/x", api.ErrNotDir},
	{"/nope", "/x", api.ErrNoEnt},
	{"/nope", "/", api.ErrNoEnt},
	{tooLong, ".", api.ErrName},
	{"", "", api.ErrNoEnt},
	{"/d", "", api.ErrNoEnt},
	{"", "nope/x", api.ErrNoEnt},
	{"", "nope/.", api.ErrNoEnt},
	{"", "nope/..", api.ErrNoEnt},
	{"", "nope/" + tooLong, api.ErrNoEnt},
	{"", "f/x", api.ErrNotDir},
	{"", "f/x/", api.ErrNotDir},
	{"", "f/.", api.ErrNotDir},
	{"", "f/..", api.ErrNotDir},
	{"", "f/" + tooLong, api.ErrNotDir},
	{"", "f/x/y", api.ErrNotDir},
	{"", tooLong + "/x", api.ErrName},
	{"", "a\x00/.", api.ErrName},
	{"", tooLong, api.ErrName},
	{"", "d/" + tooLong + "/", api.ErrName},
	{"", "d/a\x00", api.ErrName},
	{"", "/", none},
	{"", "//", none},
	{"", ".", none},
	{"", "..", none},
	{"", "./", none},
	{"", "d/.", none},
	{"", "d/..", none},
	{"", "d/..//", none},
	{"/d", "/", none},
	{"/d/e", "..", none},
}

const none = api.Errno(-1)

func TestNaming(t *testing.T) {
	for _, c := range naming {
		exist, busy := c.want, c.want
		if c.want == none {
			exist, busy = api.ErrExist, api.ErrBusy
		}
		x := usual(t)
		was := shown(x.Dump())
		what := strconv.Quote(c.cwd) + ", " + strconv.Quote(c.path)
		for _, dir := range []bool{false, true} {
			n, e := x.Make(c.cwd, c.path, dir, 0, 0)
			is(t, "Make of "+what, e, exist)
			if n != 0 {
				t.Errorf("Make of %s: %d beside an error", what, n)
			}
			is(t, "Remove of "+what, x.Remove(c.cwd, c.path, dir), busy)
		}
		is(t, "Link to "+what, x.Link(c.cwd, "/f", c.path), exist)
		is(t, "Rename of "+what, x.Rename(c.cwd, c.path, "/new"), busy)
		is(t, "Rename to "+what, x.Rename(c.cwd, "/f", c.path), busy)
		is(t, "Rename of a directory to "+what, x.Rename(c.cwd, "/z", c.path), busy)
		same(t, what, x, was)
	}
}

func TestMake(t *testing.T) {
	for _, c := range []struct {
		cwd, path string
		dir       bool
		want      api.Errno
	}{
		{"", "/n", false, api.OK},
		{"", "/n", true, api.OK},
		{"", "/n/", true, api.OK},
		{"", "n//", true, api.OK},
		{"d", "n", false, api.OK},
		{"d/e", "../../n", true, api.OK},
		{"", "/d/..n", false, api.OK},
		{"", "/d/...", true, api.OK},
		{"", "/d/" + longest, true, api.OK},
		{"", "/n/", false, api.ErrNotDir},
		{"", "/f", false, api.ErrExist},
		{"", "/f", true, api.ErrExist},
		{"", "/f/", false, api.ErrExist},
		{"", "/f/", true, api.ErrExist},
		{"", "/d", false, api.ErrExist},
		{"", "/d/", true, api.ErrExist},
	} {
		x := usual(t)
		was := shown(x.Dump())
		files := x.Files()
		what := "Make of " + strconv.Quote(c.cwd) + ", " + strconv.Quote(c.path)
		n, e := x.Make(c.cwd, c.path, c.dir, -1, -5)
		is(t, what, e, c.want)
		if c.want != api.OK {
			same(t, what, x, was)
			if next, _ := x.Make("", "/next", false, 0, 0); n != 0 || next != 9 {
				t.Errorf("%s: %d, and then %d", what, n, next)
			}
			continue
		}
		s, e := x.Stat(c.cwd, c.path)
		if want := (api.Stat{Ino: 9, Dir: c.dir, Mode: 0o777, Tick: -5, Links: 1}); s != want || n != 9 || e != api.OK {
			t.Errorf("%s: %d, %v", what, n, s)
		}
		if more := x.Files() - files; (more == 1) == c.dir {
			t.Errorf("%s: %d files more", what, more)
		}
	}
}

// The parent keeps its mode and its tick.
func TestMakeLeavesParent(t *testing.T) {
	x := grown(t, "/d/")
	was, _ := x.Stat("", "/d")
	_, e := x.Make("", "/d/x", false, 0, 99)
	must(t, "Make", e)
	must(t, "Remove", x.Remove("", "/d/x", false))
	if now, _ := x.Stat("", "/d"); now != was {
		t.Errorf("the directory was %v and is %v", was, now)
	}
}

func TestModeBits(t *testing.T) {
	for mode, want := range map[int]int{
		0: 0, 0o777: 0o777, 0o1000: 0, 0o1644: 0o644, 0o7777: 0o777, -1: 0o777, -2: 0o776,
		math.MaxInt: 0o777, math.MinInt: 0,
	} {
		x := grown(t, "/a")
		_, e := x.Make("", "/b", true, mode, 0)
		must(t, "Make", e)
		must(t, "Mode", x.Mode("", "/a", mode))
		must(t, "Mode of the root", x.Mode("", "/", mode))
		for _, path := range []string{"/", "/a", "/b"} {
			if s, _ := x.Stat("", path); s.Mode != want {
				t.Errorf("the mode %d makes 0%o of %s, not 0%o", mode, s.Mode, path, want)
			}
		}
	}
}

// full is a tree with the directory /d, the file /f, and all entries that there may be.
func full(t *testing.T) *tree.Tree {
	entries := []string{"/d/", "/f"}
	for i := len(entries); i < api.MaxNodes; i++ {
		entries = append(entries, "/d/"+strconv.Itoa(i)+"=/f")
	}
	return grown(t, entries...)
}

func TestMany(t *testing.T) {
	x := full(t)
	was := shown(x.Dump())
	for _, dir := range []bool{false, true} {
		n, e := x.Make("", "/n", dir, 0, 0)
		is(t, "Make of the 201st", e, api.ErrMany)
		if n != 0 {
			t.Errorf("Make of the 201st: %d", n)
		}
		_, e = x.Make("", "/f", dir, 0, 0)
		is(t, "Make of one that is there", e, api.ErrExist)
	}
	is(t, "Link of the 201st", x.Link("", "/f", "/n"), api.ErrMany)
	is(t, "Link with a stroke", x.Link("", "/f", "/n/"), api.ErrNotDir)
	same(t, "what was refused", x, was)
	must(t, "Rename", x.Rename("", "/d/9", "/n"))
	must(t, "Rename onto another file", x.Rename("", "/n", "/d/8"))
	must(t, "Rename of the same file", x.Rename("", "/d/8", "/m"))
	must(t, "Remove", x.Remove("", "/d/7", false))
	if n, e := x.Make("", "/last", true, 0, 0); n != 4 || e != api.OK {
		t.Errorf("Make of the 200th: %d, error %d", n, e)
	}
	is(t, "Make of the 201st", x.Link("", "/f", "/o"), api.ErrMany)
}

func TestDepth(t *testing.T) {
	l := chain(api.MaxDepth - 1)
	end := l[len(l)-1].Path
	x, e := tree.Load(append(l, file("/f", 0, "f")))
	must(t, "Load", e)
	_, e = x.Make(end, "deep", true, 0, 0)
	must(t, "Make at depth 10", e)
	must(t, "Link at depth 10", x.Link(end, "/f", "link"))
	was := shown(x.Dump())
	for _, dir := range []bool{false, true} {
		_, e = x.Make(end, "deep/er", dir, 0, 0)
		is(t, "Make at depth 11", e, api.ErrDepth)
	}
	_, e = x.Make(end, "deep/er/", false, 0, 0)
	is(t, "Make of a file with a stroke at depth 11", e, api.ErrNotDir)
	is(t, "Link at depth 11", x.Link(end, "/f", "deep/er"), api.ErrDepth)
	is(t, "Link with a stroke at depth 11", x.Link(end, "/f", "deep/er/"), api.ErrNotDir)
	is(t, "Rename to depth 11", x.Rename(end, "/f", "deep/er"), api.ErrDepth)
	same(t, "what was refused", x, was)
}

// Of a place that is too deep in a tree that is full, depth is told.
func TestDepthAheadOfMany(t *testing.T) {
	l := append(chain(api.MaxDepth), file("/f", 1, ""))
	end := l[api.MaxDepth-1].Path
	for len(l) < api.MaxNodes {
		l = append(l, file("/"+strconv.Itoa(len(l)), 1, ""))
		l[len(l)-1].Tick = l[api.MaxDepth].Tick
	}
	x, e := tree.Load(l)
	must(t, "Load", e)
	_, e = x.Make(end, "n", false, 0, 0)
	is(t, "Make", e, api.ErrDepth)
	is(t, "Link", x.Link(end, "/f", "n"), api.ErrDepth)
	_, e = x.Make("", "n", false, 0, 0)
	is(t, "Make", e, api.ErrMany)
}

func TestRemove(t *testing.T) {
	for _, c := range []struct {
		cwd, path string
		dir       bool
		want      api.Errno
	}{
		{"", "/f", false, api.OK},
		{"/d/e", "f", false, api.OK},
		{"/d", "./e/../g", false, api.OK},
		{"", "/z", true, api.OK},
		{"", "z//", true, api.OK},
		{"/d", "/z/", true, api.OK},
		{"", "/nope", false, api.ErrNoEnt},
		{"", "/nope", true, api.ErrNoEnt},
		{"", "/nope/", false, api.ErrNoEnt},
		{"", "/nope/", true, api.ErrNoEnt},
		{"", "/f", true, api.ErrNotDir},
		{"", "/f/", true, api.ErrNotDir},
		{"", "/f/", false, api.ErrNotDir},
		{"", "/d", true, api.ErrNotEmpty},
		{"/d", "/d/", true, api.ErrNotEmpty},
		{"/z", "/z", true, api.ErrBusy},
		{"z", "../z/", true, api.ErrBusy},
		{"/d/../z/.", "/z", true, api.ErrBusy},
		{"", "/z", false, api.ErrIsDir},
		{"", "/z/", false, api.ErrIsDir},
		{"/z", "/z", false, api.ErrIsDir},
		{"", "/d", false, api.ErrIsDir},
	} {
		x := usual(t)
		was := shown(x.Dump())
		count := len(x.Dump())
		what := "Remove of " + strconv.Quote(c.cwd) + ", " + strconv.Quote(c.path)
		is(t, what, x.Remove(c.cwd, c.path, c.dir), c.want)
		if c.want != api.OK {
			same(t, what, x, was)
			continue
		}
		if _, e := x.Find(c.cwd, c.path); e != api.ErrNoEnt || len(x.Dump()) != count-1 {
			t.Errorf("%s: Find answers %d, and of %d entries are %d left", what, e, count, len(x.Dump()))
		}
	}
}

// No number is given twice, whatever has gone.
func TestNumbersRise(t *testing.T) {
	x := tree.New()
	for want := 2; want < 500; want++ {
		isDir := want%3 == 0
		n, e := x.Make("", "/a", isDir, 0, 0)
		if n != want || e != api.OK {
			t.Fatalf("Make: %d, error %d, not %d", n, e, want)
		}
		must(t, "Remove", x.Remove("", "/a", isDir))
	}
	if n := x.Files(); n != 0 {
		t.Errorf("%d files are left", n)
	}
}

// P2.5

func TestLink(t *testing.T) {
	for _, c := range []struct {
		cwd, old, path string
		want           api.Errno
	}{
		{"", "/f", "/n", api.OK},
		{"/d", "g", "e/n", api.OK},
		{"/d", "/h", "../z/n", api.OK},
		{"", "/nope", "/n", api.ErrNoEnt},
		{"", "/nope", "", api.ErrNoEnt},
		{"", "", "/n", api.ErrNoEnt},
		{"", "/f/", "/n", api.ErrNotDir},
		{"", "/f/x", "/f", api.ErrNotDir},
		{"", tooLong, "/f", api.ErrName},
		{"", "/d", "/n", api.ErrIsDir},
		{"", "/", "/", api.ErrIsDir},
		{"", ".", "/f", api.ErrIsDir},
		{"", "/d", "/nope/n", api.ErrIsDir},
		{"", "/f", "/f", api.ErrExist},
		{"", "/f", "/h", api.ErrExist},
		{"", "/f", "/d", api.ErrExist},
		{"", "/f", "/d/", api.ErrExist},
		{"", "/f", "/h/", api.ErrExist},
		{"", "/f", "/n/", api.ErrNotDir},
		{"", "/f", "/nope/n", api.ErrNoEnt},
		{"/nope", "/f", "/n", api.ErrNoEnt},
		{"/f", "/nope", "/n", api.ErrNotDir},
	} {
		x := usual(t)
		was := shown(x.Dump())
		files := x.Files()
		what := "Link of " + strconv.Quote(c.cwd) + ", " + strconv.Quote(c.old) + ", " + strconv.Quote(c.path)
		before, _ := x.Stat(c.cwd, c.old)
		is(t, what, x.Link(c.cwd, c.old, c.path), c.want)
		if c.want != api.OK {
			same(t, what, x, was)
			continue
		}
		after, e := x.Stat(c.cwd, c.path)
		before.Links++
		if after != before || e != api.OK || x.Files() != files {
			t.Errorf("%s: %v, error %d, not %v", what, after, e, before)
		}
		x.Write(after.Ino, 0, []byte("new"), 7)
		if s, _ := x.Stat(c.cwd, c.old); s.Size != max(3, before.Size) || s.Links != before.Links {
			t.Errorf("%s: the old name is of %v", what, s)
		}
	}
}

func TestRename(t *testing.T) {
	for _, c := range []struct {
		cwd, old, path string
		want           api.Errno
	}{
		{"", "/f", "/n", api.OK},
		{"", "/f", "/d/e/f", api.OK},
		{"/d", "g", "../h", api.OK},
		{"", "/d", "/n", api.OK},
		{"", "/d/", "/n/", api.OK},
		{"", "/d", "/z", api.OK},
		{"", "/d", "/z/d", api.OK},
		{"/d/e", "/d", "/z", api.OK},
		{"/z", "/z", "/n", api.OK},
		{"", "/d/e", "/d/../n", api.OK},
		{"", "/z", "/d/e/z", api.OK},

		{"/nope", "/f", "/n", api.ErrNoEnt},
		{"/f", "/nope", "/n", api.ErrNotDir},
		{"", "/nope", "/n", api.ErrNoEnt},
		{"", "/nope/", "/", api.ErrNoEnt},
		{"", "/nope", "/f/x", api.ErrNoEnt},
		{"", "/", "/nope/x", api.ErrBusy},
		{"", "/f", "/nope/x", api.ErrNoEnt},
		{"", "/f", "/f/x", api.ErrNotDir},
		{"", "/f", "/", api.ErrBusy},
		{"", "/f/", "/", api.ErrBusy},
		{"", "/d", "/d/.", api.ErrBusy},
		{"", "/f/", "/n", api.ErrNotDir},
		{"", "/f", "/n/", api.ErrNotDir},
		{"", "/f/", "/f", api.ErrNotDir},
		{"", "/f", "/h/", api.ErrNotDir},
		{"", "/f", "/d/", api.ErrNotDir},
		{"", "/f/", "/d", api.ErrNotDir},
		{"", "/d", "/d/n", api.ErrInval},
		{"", "/d", "/d/e", api.ErrInval},
		{"", "/d", "/d/g", api.ErrInval},
		{"", "/d", "/d/e/f", api.ErrInval},
		{"", "/d", "/d/e/n/", api.ErrInval},
		{"", "/d/e", "/d/e/../e/n", api.ErrInval},
		{"", "/f", "/z", api.ErrIsDir},
		{"", "/f", "/d", api.ErrIsDir},
		{"/z", "/f", "/z", api.ErrIsDir},
		{"", "/d/g", "/d", api.ErrIsDir},
		{"", "/d", "/f", api.ErrNotDir},
		{"", "/d/", "/f/", api.ErrNotDir},
		{"", "/z", "/d", api.ErrNotEmpty},
		{"/d", "/z", "/d", api.ErrNotEmpty},
		{"", "/d/e", "/d", api.ErrNotEmpty},
		{"/z", "/d", "/z", api.ErrBusy},
		{"/d/../z", "../d", "/z/", api.ErrBusy},
	} {
		x := usual(t)
		was := shown(x.Dump())
		what := "Rename of " + strconv.Quote(c.cwd) + ", " + strconv.Quote(c.old) + ", " + strconv.Quote(c.path)
		before, _ := x.Stat(c.cwd, c.old)
		is(t, what, x.Rename(c.cwd, c.old, c.path), c.want)
		if c.want != api.OK {
			same(t, what, x, was)
			continue
		}
		if after, e := x.Stat("/", strings.TrimPrefix(c.path, "../")); after != before || e != api.OK {
			t.Errorf("%s: %v, error %d, not %v", what, after, e, before)
		}
		if _, e := x.Find("/d", c.old); e != api.ErrNoEnt && e != api.ErrNotDir {
			t.Errorf("%s: the old name is there, error %d", what, e)
		}
	}
}

// What is renamed onto itself, by whatever path, stays as it is.
func TestRenameOntoItself(t *testing.T) {
	for _, c := range []struct{ cwd, old, path string }{
		{"", "/f", "/f"},
		{"", "/f", "/h"},
		{"", "/h", "/f"},
		{"/d", "../f", "e/../../h"},
		{"", "/d", "/d"},
		{"", "/d", "/d/"},
		{"", "/d//", "//d"},
		{"/d", "/d", "../d"},
		{"", "/z", "/d/../z"},
		{"/z", "/z", "/z"},
	} {
		x := usual(t)
		was := shown(x.Dump())
		is(t, "Rename of "+c.old+" to "+c.path, x.Rename(c.cwd, c.old, c.path), api.OK)
		same(t, "Rename of "+c.old+" to "+c.path, x, was)
	}
}

// A file that was renamed onto is gone, unless it has another name or is held.
func TestRenameOntoFile(t *testing.T) {
	x := grown(t, "/a", "/b", "/c=/b")
	must(t, "Rename", x.Rename("", "/a", "/b"))
	if s, _ := x.Stat("", "/c"); s.Links != 1 || x.Files() != 2 {
		t.Errorf("the other name: %v, %d files", s, x.Files())
	}
	must(t, "Rename", x.Rename("", "/b", "/c"))
	if b := x.Read(3, 0, 9); len(b) != 0 || x.Files() != 1 {
		t.Errorf("a file without a name: %q, %d files", b, x.Files())
	}
	x.Hold(2)
	_, e := x.Make("", "/n", false, 0, 0)
	must(t, "Make", e)
	must(t, "Rename", x.Rename("", "/n", "/c"))
	if b := x.Read(2, 0, 9); string(b) != "/a" || x.Files() != 2 {
		t.Errorf("a held file: %q, %d files", b, x.Files())
	}
}

// A directory is renamed with all that is below it; `..` leads to where it is now.
func TestRenameOfDirectory(t *testing.T) {
	x := usual(t)
	must(t, "Rename", x.Rename("", "/d", "/z/q"))
	for path, want := range map[string]int{"/z/q": 2, "/z/q/e/f": 4, "/z/q/..": 6, "/z/q/e/../..": 6} {
		if n, e := x.Find("", path); n != want || e != api.OK {
			t.Errorf("Find of %s: %d, error %d, not %d", path, n, e, want)
		}
	}
	must(t, "Rename", x.Rename("", "/z/q/e", "/z/e"))
	if n, e := x.Find("/z/e", ".."); n != 6 || e != api.OK {
		t.Errorf("Find of /z/e/..: %d, error %d", n, e)
	}
	is(t, "Rename", x.Rename("", "/z", "/z/e/z"), api.ErrInval)
	must(t, "Rename", x.Rename("", "/z/q", "/z/e/q"))
	if l, e := x.List("", "/z"); !slices.Equal(l, []string{"e"}) || e != api.OK {
		t.Errorf("List: %q, error %d", l, e)
	}
}

func TestRenameDepth(t *testing.T) {
	// /c is ten deep; /t has a directory, and a file therein; /e is empty.
	l := append(chain(api.MaxDepth), dir("/t"), dir("/t/u"), file("/t/u/v", 0, ""), file("/f", 0, ""), dir("/e"))
	at := func(depth int) string { return strings.Repeat("/c", depth) }
	for _, c := range []struct {
		old, path string
		want      api.Errno
	}{
		{"/f", at(9) + "/f", api.OK},
		{"/f", at(10) + "/f", api.ErrDepth},
		{"/e", at(9) + "/e", api.OK},
		{"/e", at(10) + "/e/", api.ErrDepth},
		{"/t", at(7) + "/t", api.OK},
		{"/t", at(8) + "/t", api.ErrDepth},
		{"/t", at(10), api.ErrDepth},
		{"/t/u", at(8) + "/u", api.OK},
		{"/t/u", at(10), api.ErrDepth},
		{"/e", at(10), api.OK},
		{"/c", "/e/c", api.ErrDepth},
		{"/c", "/e", api.OK},
		{"/c", at(9) + "/c", api.ErrInval},
		{"/t", at(9), api.ErrNotEmpty},
		{"/f", at(10), api.ErrIsDir},
	} {
		x, e := tree.Load(l)
		must(t, "Load", e)
		was := shown(x.Dump())
		is(t, "Rename of "+c.old+" to "+c.path, x.Rename("", c.old, c.path), c.want)
		if c.want != api.OK {
			same(t, "Rename of "+c.old+" to "+c.path, x, was)
		}
	}
	x, e := tree.Load(l)
	must(t, "Load", e)
	is(t, "Rename onto cwd, too deep", x.Rename(at(10), "/t", "../c"), api.ErrBusy)
}

// P2.6

func TestModeAndTouch(t *testing.T) {
	x := usual(t)
	must(t, "Mode", x.Mode("/d", "../f", 0o1600))
	must(t, "Touch", x.Touch("", "/h", -3))
	must(t, "Touch", x.Touch("/d", "e/", math.MaxInt))
	must(t, "Mode", x.Mode("/d", ".", 0o700))
	must(t, "Touch", x.Touch("", "/", 5))
	for path, want := range map[string]api.Stat{
		"/":    {Ino: 1, Dir: true, Mode: 0o755, Tick: 5, Links: 1},
		"/f":   {Ino: 7, Mode: 0o600, Tick: -3, Size: 2, Links: 2},
		"/h":   {Ino: 7, Mode: 0o600, Tick: -3, Size: 2, Links: 2},
		"/d":   {Ino: 2, Dir: true, Mode: 0o700, Tick: 7, Links: 1},
		"/d/e": {Ino: 3, Dir: true, Mode: 0o644, Tick: math.MaxInt, Links: 1},
		"/d/g": {Ino: 5, Mode: 0o644, Tick: 7, Size: 4, Links: 1},
	} {
		if s, _ := x.Stat("", path); s != want {
			t.Errorf("Stat of %s: %v, not %v", path, s, want)
		}
	}
}

// P2.7

func TestRead(t *testing.T) {
	x, e := tree.Load([]api.Node{dir("/d"), file("/f", 0, "abcde")})
	must(t, "Load", e)
	for _, c := range []struct {
		ino, off, most int
		want           string
	}{
		{3, 0, 5, "abcde"},
		{3, 0, 99, "abcde"},
		{3, 0, math.MaxInt, "abcde"},
		{3, 2, math.MaxInt, "cde"},
		{3, 2, 2, "cd"},
		{3, 4, 1, "e"},
		{3, 0, 0, ""},
		{3, 5, 1, ""},
		{3, 6, 1, ""},
		{3, math.MaxInt, math.MaxInt, ""},
		{3, -1, 3, ""},
		{3, math.MinInt, 3, ""},
		{3, 0, -1, ""},
		{3, 0, math.MinInt, ""},
		{3, -1, -1, ""},
		{2, 0, 5, ""},
		{1, 0, 5, ""},
		{4, 0, 5, ""},
		{0, 0, 5, ""},
		{-1, 0, 5, ""},
	} {
		if b := x.Read(c.ino, c.off, c.most); string(b) != c.want {
			t.Errorf("Read(%d, %d, %d): %q, not %q", c.ino, c.off, c.most, b, c.want)
		}
	}
}

func TestWrite(t *testing.T) {
	for _, c := range []struct {
		ino, off int
		b, want  string
	}{
		{2, 0, "XY", "XYc"},
		{2, 1, "XY", "aXY"},
		{2, 2, "XY", "abXY"},
		{2, 3, "XY", "abcXY"},
		{2, 5, "XY", "abc\x00\x00XY"},
		{2, 0, "WXYZ", "WXYZ"},
		{2, 0, "", "abc"},
		{2, 9, "", "abc"},
		{2, -1, "XY", "abc"},
		{2, math.MinInt, "XY", "abc"},
		{2, 1<<24 + 1, "XY", "abc"},
		{2, math.MaxInt, "XY", "abc"},
		{3, 0, "XY", "abc"},
		{1, 0, "XY", "abc"},
		{-7, 0, "XY", "abc"},
	} {
		x, e := tree.Load([]api.Node{file("/f", 0, "abc")})
		must(t, "Load", e)
		x.Write(c.ino, c.off, []byte(c.b), 8)
		wantTick := 8
		if c.want == "abc" {
			wantTick = 3
		}
		if b := x.Read(2, 0, 99); string(b) != c.want || x.Size(2) != len(c.want) {
			t.Errorf("Write(%d, %d, %q): %q of size %d, not %q", c.ino, c.off, c.b, b, x.Size(2), c.want)
		}
		if s, _ := x.Stat("", "/f"); s.Tick != wantTick || s.Size != len(c.want) {
			t.Errorf("Write(%d, %d, %q): %v", c.ino, c.off, c.b, s)
		}
	}
}

// Bytes at the greatest offset are written, with noughts ahead of them, though far fewer may be in a kernel's file.
func TestWriteFarOff(t *testing.T) {
	x := grown(t, "/f")
	const far = 1 << 24
	x.Write(2, far, []byte("end"), 9)
	if n := x.Size(2); n != far+3 {
		t.Fatalf("the size is %d", n)
	}
	b := x.Read(2, 0, math.MaxInt)
	if string(b[:2]) != "/f" || string(b[far:]) != "end" || strings.Trim(string(b[2:far]), "\x00") != "" {
		t.Error("the bytes are other ones")
	}
}

// Bytes that were cut off do not come back as what stands between.
func TestCut(t *testing.T) {
	x, e := tree.Load([]api.Node{file("/f", 1, "secret"), file("/g", 1, "secret"), dir("/d")})
	must(t, "Load", e)
	x.Cut(2, 11)
	if s, _ := x.Stat("", "/g"); s.Size != 0 || s.Tick != 11 || x.Size(2) != 0 || len(x.Read(2, 0, 9)) != 0 {
		t.Errorf("after Cut: %v", s)
	}
	x.Write(2, 4, []byte("!"), 12)
	if b := x.Read(2, 0, 9); string(b) != "\x00\x00\x00\x00!" {
		t.Errorf("after Cut and Write: %q", b)
	}
	was := shown(x.Dump())
	for _, ino := range []int{-1, 0, 1, 3, 4, math.MaxInt} {
		x.Cut(ino, 99)
		if n := x.Size(ino); n != 0 {
			t.Errorf("Size(%d): %d", ino, n)
		}
	}
	same(t, "Cut of what is no file", x, was)
	if s, _ := x.Stat("", "/d"); s.Tick != 0 {
		t.Errorf("Cut has touched a directory: %v", s)
	}
}

func TestHold(t *testing.T) {
	x := grown(t, "/a", "/b=/a", "/c")
	x.Hold(2)
	x.Hold(2)
	must(t, "Remove", x.Remove("", "/a", false))
	must(t, "Remove", x.Remove("", "/b", false))
	x.Write(2, 2, []byte("!"), 0)
	x.Drop(2)
	if b := x.Read(2, 0, 9); string(b) != "/a!" || x.Size(2) != 3 || x.Files() != 2 {
		t.Errorf("held once: %q, %d files", b, x.Files())
	}
	x.Drop(2)
	if b := x.Read(2, 0, 9); len(b) != 0 || x.Size(2) != 0 || x.Files() != 1 {
		t.Errorf("held no more: %q, %d files", b, x.Files())
	}
	x.Hold(2)
	x.Write(2, 0, []byte("x"), 0)
	if x.Size(2) != 0 || x.Files() != 1 {
		t.Error("a file that is gone has come back")
	}
}

// Drop of a file that nobody holds counts nothing, and a name keeps the file.
func TestDropTooOften(t *testing.T) {
	x := grown(t, "/a")
	x.Drop(2)
	x.Drop(2)
	x.Hold(2)
	must(t, "Remove", x.Remove("", "/a", false))
	if x.Files() != 1 {
		t.Error("a held file is gone")
	}
	x.Drop(2)
	if x.Files() != 0 {
		t.Error("a file that nobody holds is there")
	}
	for _, ino := range []int{-1, 0, 1, 2, 3, math.MaxInt, math.MinInt} {
		x.Drop(ino)
		x.Hold(ino)
	}
	if x.Files() != 0 {
		t.Error("files have come from nowhere")
	}
	if n, _ := x.Make("", "/b", false, 0, 0); n != 3 {
		t.Errorf("the next number is %d", n)
	}
	must(t, "Remove", x.Remove("", "/b", false))
	if x.Files() != 0 {
		t.Error("a Hold of what was not there yet has counted")
	}
}

// A directory is never kept: who holds its number holds nothing.
func TestHoldOfDirectory(t *testing.T) {
	x := grown(t, "/d/")
	x.Hold(2)
	must(t, "Remove", x.Remove("", "/d", true))
	x.Drop(2)
	if x.Files() != 0 || len(x.Dump()) != 0 {
		t.Errorf("%d files, %v", x.Files(), x.Dump())
	}
}

// P2.8

func TestDumpAndLoad(t *testing.T) {
	for _, x := range []*tree.Tree{tree.New(), usual(t), full(t), grown(t, "/a/", "/a-b", "/a/b", "/c=/a-b")} {
		l := x.Dump()
		y, e := tree.Load(l)
		must(t, "Load of a Dump", e)
		same(t, "a tree that was dumped and loaded", y, shown(l))
	}
}

// R4

// spoil overwrites all bytes of nodes, and the room behind them.
func spoil(l []api.Node) {
	for i := range l[:cap(l)] {
		n := &l[:cap(l)][i]
		for j := range n.Data[:cap(n.Data)] {
			n.Data[:cap(n.Data)][j] = '#'
		}
		n.Path = "#"
	}
}

func TestMemoryOfLoad(t *testing.T) {
	data := []byte("abc-room")
	l := []api.Node{{Path: "/f", Ino: 1, Data: data[:3]}, {Path: "/g", Ino: 1, Data: data[:3]}}
	x, e := tree.Load(l)
	must(t, "Load", e)
	x.Write(2, 3, []byte("XYZ"), 0)
	x.Write(2, 0, []byte("W"), 0)
	if string(data) != "abc-room" {
		t.Errorf("what was loaded has become %q", data)
	}
	was := shown(x.Dump())
	spoil(l)
	same(t, "a tree whose nodes were overwritten", x, was)
}

func TestMemoryOfDump(t *testing.T) {
	x := usual(t)
	was := shown(x.Dump())
	l := x.Dump()
	spoil(x.Dump())
	same(t, "a tree whose dump was overwritten", x, was)
	x.Write(7, 0, []byte("##"), 0)
	if shown(l) != was {
		t.Error("a dump has changed with the tree")
	}
	l = x.Dump()
	for i := range l {
		kept := shown(slices.Delete(slices.Clone(l), i, i+1))
		spoil(l[i : i+1 : i+1])
		if shown(slices.Delete(slices.Clone(l), i, i+1)) != kept {
			t.Errorf("the data of node %d is that of another one", i)
		}
	}
}

func TestMemoryOfReadAndWrite(t *testing.T) {
	x := grown(t, "/f")
	b := []byte("abc-room")
	x.Write(2, 0, b[:3], 0)
	x.Write(2, 3, []byte("def"), 0)
	if string(b) != "abc-room" {
		t.Errorf("what was written has become %q", b)
	}
	copy(b, "########")
	one := x.Read(2, 0, 4)
	two := x.Read(2, 0, 4)
	for i := range one[:cap(one)] {
		one[:cap(one)][i] = '#'
	}
	if string(two) != "abcd" || string(x.Read(2, 0, 9)) != "abcdef" {
		t.Errorf("overwritten: %q, %q", two, x.Read(2, 0, 9))
	}
	x.Write(2, 0, []byte("ZZZZ"), 0)
	if string(two) != "abcd" {
		t.Errorf("what was read has become %q", two)
	}
}

func TestMemoryOfList(t *testing.T) {
	x := usual(t)
	l, _ := x.List("", "/")
	for i := range l[:cap(l)] {
		l[:cap(l)][i] = "#"
	}
	if l, _ := x.List("", "/"); !slices.Equal(l, []string{"d", "f", "h", longest, "z"}) {
		t.Errorf("List: %q", l)
	}
}

// Two trees have nothing in common.
func TestTreesApart(t *testing.T) {
	l := usual(t).Dump()
	x, _ := tree.Load(l)
	y, _ := tree.Load(l)
	was := shown(y.Dump())
	for _, ino := range []int{2, 3, 4, 5, 6, 7, 8} {
		x.Write(ino, 0, []byte("#"), 0)
		x.Cut(ino, 1)
	}
	must(t, "Remove", x.Remove("", "/z", true))
	same(t, "another tree", y, was)
}
