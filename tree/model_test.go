package tree_test

import (
	"bytes"
	"math/rand"
	"slices"
	"strconv"
	"strings"
	"testing"

	"toolchest/api"
	"toolchest/tree"
)

// thing is a file or a directory of the model.
type thing struct {
	ino, mode, tick, holds int
	dir                    bool
	data                   []byte
}

// model is a tree told another way: one flat list of whole paths (the root's is empty), from which all else is worked out anew each time.
type model struct {
	at   map[string]*thing
	held []*thing
	next int
}

func newModel() *model {
	return &model{at: map[string]*thing{"": {ino: 1, mode: 0o755, dir: true}}, next: 2}
}

func (m *model) links(x *thing) int {
	n := 0
	for _, y := range m.at {
		if y == x {
			n++
		}
	}
	return n
}

func (m *model) under(path string) []string {
	var l []string
	for p := range m.at {
		if strings.HasPrefix(p, path+"/") {
			l = append(l, p)
		}
	}
	slices.Sort(l)
	return l
}

func up(path string) string { return path[:max(0, strings.LastIndex(path, "/"))] }

func badName(s string) bool { return len(s) > 32 || strings.Contains(s, "\x00") }

// step is where a part leads to from a path.
func (m *model) step(path, part string) (string, api.Errno) {
	switch {
	case !m.at[path].dir:
		return "", api.ErrNotDir
	case part == ".":
		return path, api.OK
	case part == "..":
		return up(path), api.OK
	case badName(part):
		return "", api.ErrName
	case m.at[path+"/"+part] == nil:
		return "", api.ErrNoEnt
	}
	return path + "/" + part, api.OK
}

func pieces(path string) []string {
	return strings.FieldsFunc(path, func(r rune) bool { return r == '/' })
}

func (m *model) walk(from string, l []string) (string, api.Errno) {
	for _, part := range l {
		next, e := m.step(from, part)
		if e != api.OK {
			return "", e
		}
		from = next
	}
	return from, api.OK
}

func (m *model) home(cwd string) (string, api.Errno) {
	p, e := m.walk("", pieces(cwd))
	if e == api.OK && !m.at[p].dir {
		return "", api.ErrNotDir
	}
	return p, e
}

func begin(home, path string) string {
	if path[0] == '/' {
		return ""
	}
	return home
}

func (m *model) find(cwd, path string) (string, api.Errno) {
	home, e := m.home(cwd)
	if e != api.OK {
		return "", e
	}
	if path == "" {
		return "", api.ErrNoEnt
	}
	p, e := m.walk(begin(home, path), pieces(path))
	if e == api.OK && path[len(path)-1] == '/' && !m.at[p].dir {
		return "", api.ErrNotDir
	}
	return p, e
}

// name is the whole path of a name that is made or changed.
func (m *model) name(cwd, path string, odd api.Errno) (string, api.Errno) {
	home, e := m.home(cwd)
	if e != api.OK {
		return "", e
	}
	if path == "" {
		return "", api.ErrNoEnt
	}
	l := pieces(path)
	if len(l) == 0 {
		return "", odd
	}
	p, e := m.walk(begin(home, path), l[:len(l)-1])
	if e != api.OK {
		return "", e
	}
	last := l[len(l)-1]
	switch {
	case !m.at[p].dir:
		return "", api.ErrNotDir
	case last == "." || last == "..":
		return "", odd
	case badName(last):
		return "", api.ErrName
	}
	return p + "/" + last, api.OK
}

func (m *model) free(cwd, path string, dir bool) (string, api.Errno) {
	p, e := m.name(cwd, path, api.ErrExist)
	switch {
	case e != api.OK:
		return "", e
	case m.at[p] != nil:
		return "", api.ErrExist
	case strings.HasSuffix(path, "/") && !dir:
		return "", api.ErrNotDir
	case strings.Count(p, "/") > 10:
		return "", api.ErrDepth
	case len(m.at)-1 == 200:
		return "", api.ErrMany
	}
	return p, api.OK
}

func (m *model) make(cwd, path string, dir bool, mode, now int) (int, api.Errno) {
	p, e := m.free(cwd, path, dir)
	if e != api.OK {
		return 0, e
	}
	m.at[p] = &thing{ino: m.next, mode: mode % 512, tick: now, dir: dir}
	m.next++
	return m.next - 1, api.OK
}

func (m *model) remove(cwd, path string, dir bool) api.Errno {
	p, e := m.name(cwd, path, api.ErrBusy)
	home, _ := m.home(cwd)
	x := m.at[p]
	switch {
	case e != api.OK:
		return e
	case x == nil:
		return api.ErrNoEnt
	case dir && !x.dir:
		return api.ErrNotDir
	case dir && len(m.under(p)) > 0:
		return api.ErrNotEmpty
	case dir && home == p:
		return api.ErrBusy
	case !dir && x.dir:
		return api.ErrIsDir
	case !dir && strings.HasSuffix(path, "/"):
		return api.ErrNotDir
	}
	delete(m.at, p)
	return api.OK
}

func (m *model) link(cwd, old, path string) api.Errno {
	p, e := m.find(cwd, old)
	switch {
	case e != api.OK:
		return e
	case m.at[p].dir:
		return api.ErrIsDir
	}
	q, e := m.free(cwd, path, false)
	if e == api.OK {
		m.at[q] = m.at[p]
	}
	return e
}

func (m *model) rename(cwd, old, path string) api.Errno {
	home, _ := m.home(cwd)
	p, e := m.name(cwd, old, api.ErrBusy)
	if e != api.OK {
		return e
	}
	if m.at[p] == nil {
		return api.ErrNoEnt
	}
	q, e := m.name(cwd, path, api.ErrBusy)
	if e != api.OK {
		return e
	}
	from, to := m.at[p], m.at[q]
	deepest := strings.Count(q, "/")
	for _, s := range m.under(p) {
		deepest = max(deepest, strings.Count(q+s[len(p):], "/"))
	}
	switch {
	case !from.dir && (strings.HasSuffix(old, "/") || strings.HasSuffix(path, "/")):
		return api.ErrNotDir
	case from == to:
		return api.OK
	case from.dir && strings.HasPrefix(q, p+"/"):
		return api.ErrInval
	case to != nil && to.dir && !from.dir:
		return api.ErrIsDir
	case to != nil && !to.dir && from.dir:
		return api.ErrNotDir
	case len(m.under(q)) > 0:
		return api.ErrNotEmpty
	case to != nil && to.dir && home == q:
		return api.ErrBusy
	case deepest > 10:
		return api.ErrDepth
	}
	for _, s := range append(m.under(p), p) {
		m.at[q+s[len(p):]] = m.at[s]
		delete(m.at, s)
	}
	return api.OK
}

// file is the file of a number, if it has a name or is held.
func (m *model) file(ino int) *thing {
	for _, x := range m.at {
		if x.ino == ino && !x.dir {
			return x
		}
	}
	for _, x := range m.held {
		if x.ino == ino && x.holds > 0 {
			return x
		}
	}
	return nil
}

func (m *model) files() int {
	seen := map[*thing]int{}
	for _, x := range m.at {
		if !x.dir {
			seen[x]++
		}
	}
	for _, x := range m.held {
		if x.holds > 0 {
			seen[x]++
		}
	}
	return len(seen)
}

func (m *model) write(ino, off int, b []byte, now int) {
	x := m.file(ino)
	if x == nil || off < 0 || off > 1<<24 || len(b) == 0 {
		return
	}
	for len(x.data) < off+len(b) {
		x.data = append(x.data, 0)
	}
	for i, c := range b {
		x.data[off+i] = c
	}
	x.tick = now
}

func (m *model) hold(ino, more int) {
	if x := m.file(ino); x != nil {
		x.holds = max(0, x.holds+more)
		if !slices.Contains(m.held, x) {
			m.held = append(m.held, x)
		}
	}
}

func (m *model) dump() []api.Node {
	var l []api.Node
	first := map[*thing]int{}
	for i, p := range m.under("") {
		x := m.at[p]
		n := api.Node{Path: p, Dir: x.dir, Mode: x.mode, Tick: x.tick, Data: x.data}
		if !x.dir {
			if first[x] == 0 {
				first[x] = i + 1
			}
			n.Ino = first[x]
		}
		l = append(l, n)
	}
	return l
}

// dice choose calls and what they are given.
type dice struct{ *rand.Rand }

func (d dice) of(l ...string) string { return l[d.Intn(len(l))] }

func (d dice) path() string {
	var s strings.Builder
	s.WriteString(d.of("", "/", "/", "/", "//"))
	for range d.Intn(5) {
		s.WriteString(d.of("a", "a", "a", "b", "b", "c", ".", "..", "", tooLong))
		s.WriteString(d.of("/", "/", "/", "//"))
	}
	s.WriteString(d.of("a", "b", "c", "d", "a/", "b/", "", ".", "..", "\x00"))
	return s.String()
}

func (d dice) cwd() string {
	if d.Intn(2) == 0 {
		return ""
	}
	return d.path()
}

// both does one call to the tree and to the model, and says what it was and what came of it in each.
func (d dice) both(x *tree.Tree, m *model) (what string, got, want int) {
	cwd, path, old := d.cwd(), d.path(), d.path()
	dir, n, ino := d.Intn(2) == 0, d.Intn(512), d.Intn(m.next+1)
	what = strconv.Quote(cwd) + " " + strconv.Quote(old) + " " + strconv.Quote(path) + " " + strconv.FormatBool(dir)
	number := func(n int, e api.Errno) int { return n*100 + int(e) }
	switch d.Intn(12) {
	case 0, 1, 2:
		return "Make " + what, number(x.Make(cwd, path, dir, n, n)), number(m.make(cwd, path, dir, n, n))
	case 3:
		return "Remove " + what, int(x.Remove(cwd, path, dir)), int(m.remove(cwd, path, dir))
	case 4, 5:
		return "Link " + what, int(x.Link(cwd, old, path)), int(m.link(cwd, old, path))
	case 6, 7, 8:
		return "Rename " + what, int(x.Rename(cwd, old, path)), int(m.rename(cwd, old, path))
	case 9:
		e := x.Mode(cwd, path, n)
		p, f := m.find(cwd, path)
		if f == api.OK {
			m.at[p].mode = n
		}
		return "Mode " + what, int(e), int(f)
	case 10:
		x.Hold(ino)
		m.hold(ino, 1)
		return "Hold", 0, 0
	}
	if dir {
		x.Drop(ino)
		m.hold(ino, -1)
		return "Drop", 0, 0
	}
	b := []byte("wxyz")[:d.Intn(5)]
	x.Write(ino, n%9-1, b, n)
	m.write(ino, n%9-1, b, n)
	return "Write", x.Size(ino), size(m.file(ino))
}

func size(x *thing) int {
	if x == nil {
		return 0
	}
	return len(x.data)
}

// agree holds what a tree tells against its model.
func agree(t *testing.T, what string, d dice, x *tree.Tree, m *model) {
	t.Helper()
	same(t, what, x, shown(m.dump()))
	if x.Files() != m.files() {
		t.Fatalf("%s: %d files, not %d", what, x.Files(), m.files())
	}
	for ino := range m.next {
		var want []byte
		if f := m.file(ino); f != nil {
			want = f.data
		}
		if b := x.Read(ino, 0, 99); !bytes.Equal(b, want) {
			t.Fatalf("%s: the file %d says %q, not %q", what, ino, b, want)
		}
	}
	cwd, path := d.cwd(), d.path()
	s, e := x.Stat(cwd, path)
	var want api.Stat
	p, f := m.find(cwd, path)
	if f == api.OK {
		y := m.at[p]
		want = api.Stat{Ino: y.ino, Dir: y.dir, Mode: y.mode, Tick: y.tick, Size: len(y.data), Links: m.links(y)}
	}
	if s != want || e != f {
		t.Fatalf("%s: Stat of %q, %q: %v, error %d, not %v, %d", what, cwd, path, s, e, want, f)
	}
}

// P2.4 to P2.8: whatever is called one behind the other, a tree and its model agree; and what is dumped is loaded and dumped the same.
func TestAgainstModel(t *testing.T) {
	seen := map[string]int{}
	for seed := range 400 {
		d := dice{rand.New(rand.NewSource(int64(seed)))}
		x, m := tree.New(), newModel()
		for range 120 {
			what, got, want := d.both(x, m)
			if got != want {
				t.Fatalf("%s: %d, not %d, of\n%s", what, got, want, shown(m.dump()))
			}
			call, _, _ := strings.Cut(what, " ")
			seen[call+strconv.Itoa(got%100)]++
			agree(t, what, d, x, m)
			if t.Failed() {
				return
			}
		}
		y, e := tree.Load(x.Dump())
		must(t, "Load of a Dump", e)
		same(t, "a tree that was dumped and loaded", y, shown(m.dump()))
	}
	for _, call := range []string{"Make0", "Make1", "Make2", "Make3", "Make13", "Remove0", "Remove1", "Remove3", "Remove4", "Remove5", "Remove15",
		"Link0", "Link1", "Link2", "Link3", "Link4", "Link13", "Rename0", "Rename1", "Rename3", "Rename4", "Rename5", "Rename13", "Rename15", "Rename16"} {
		if seen[call] == 0 {
			t.Errorf("%s has not come up", call)
		}
	}
}
