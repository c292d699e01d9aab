package names_test

import (
	"reflect"
	"strings"
	"testing"

	"toolchest/api"
	"toolchest/names"
)

// P19.2

// A path, its last part, and what stands ahead of that.
func TestBaseAndDir(t *testing.T) {
	for _, c := range []struct{ path, base, dir string }{
		{"", "", "."},
		{"/", "/", "/"},
		{"//", "/", "/"},
		{"///", "/", "/"},
		{"a", "a", "."},
		{"a/", "a", "."},
		{"a///", "a", "."},
		{"/a", "a", "/"},
		{"/a/", "a", "/"},
		{"//a", "a", "/"},
		{"///a//", "a", "/"},
		{"a/b", "b", "a"},
		{"a//b", "b", "a"},
		{"a////b", "b", "a"},
		{"a/b/", "b", "a"},
		{"a/b//", "b", "a"},
		{"/a/b", "b", "/a"},
		{"/a//b/", "b", "/a"},
		{"//a//b//", "b", "//a"},
		{"a/b/c", "c", "a/b"},
		{"a//b///c////", "c", "a//b"},
		{"/a/b.c", "b.c", "/a"},
		{".", ".", "."},
		{"..", "..", "."},
		{"./", ".", "."},
		{"/.", ".", "/"},
		{"./a", "a", "."},
		{"a/.", ".", "a"},
		{"a/../", "..", "a"},
		{"../../b", "b", "../.."},
		{"-a/-b", "-b", "-a"},
		{" / ", " ", " "},
		{"\n/\n", "\n", "\n"},
		{"\\/\\", "\\", "\\"},
		{"\xff/\xfe/", "\xfe", "\xff"},
		{"\x00/\x00", "\x00", "\x00"},
	} {
		if got := names.Base(c.path, ""); got != c.base {
			t.Errorf("Base(%q): %q, not %q", c.path, got, c.base)
		}
		if got := names.Dir(c.path); got != c.dir {
			t.Errorf("Dir(%q): %q, not %q", c.path, got, c.dir)
		}
		tells(t, c.base+"\n", "basename", "--", c.path)
		tells(t, c.base+"\n", "basename", "--", c.path, "")
		tells(t, c.dir+"\n", "dirname", "--", c.path)
		if !strings.HasPrefix(c.path, "-") {
			tells(t, c.base+"\n", "basename", c.path)
			tells(t, c.dir+"\n", "dirname", c.path)
		}
	}
}

func TestSuffixes(t *testing.T) {
	for _, c := range []struct{ path, suffix, base string }{
		{"/a/b.c", ".c", "b"},
		{"b.c", ".c", "b"},
		{"b.c", "c", "b."},
		{"b.c", "b.c", "b.c"}, // all of it
		{"b.c", "ab.c", "b.c"},
		{"b.c", "/b.c", "b.c"},
		{"a/b.c", "/b.c", "b.c"},
		{"a/b.c", "a/b.c", "b.c"},
		{"b.c", ".", "b.c"},
		{"b.c", "b", "b.c"},
		{"b.c", ".C", "b.c"},
		{"b.c", "", "b.c"},
		{"b.c.c", ".c", "b.c"}, // there twice
		{"bbb", "b", "bb"},
		{"bbb", "bb", "b"},
		{"bbb", "bbb", "bbb"},
		{"bbb", "bbbb", "bbb"},
		{"b.c/", ".c", "b"},
		{"b.c///", ".c", "b"},
		{"b.c///", "/", "b.c"},
		{"b.c///", ".c/", "b.c"},
		{"x.c/b", ".c", "b"},
		{"x/c", "c", "c"},
		{"x/cc", "c", "c"},
		{"", "", ""},
		{"", "a", ""},
		{"", "/", ""},
		{"/", "", "/"},
		{"/", "/", "/"},
		{"//", "/", "/"},
		{"///", "//", "/"},
		{"a", "a", "a"},
		{"/a/", "a", "a"},
		{"a-x", "-x", "a"},
		{"a--", "--", "a"},
		{"a\n", "\n", "a"},
		{"a\xff\xfe", "\xfe", "a\xff"},
	} {
		if got := names.Base(c.path, c.suffix); got != c.base {
			t.Errorf("Base(%q, %q): %q, not %q", c.path, c.suffix, got, c.base)
		}
		tells(t, c.base+"\n", "basename", c.path, c.suffix)
		tells(t, c.base+"\n", "basename", "--", c.path, c.suffix)
	}
}

func TestOperandsOfPaths(t *testing.T) {
	tells(t, "b\n", "basename", "a/b")
	tells(t, "-\n", "basename", "-")
	tells(t, "-\n", "basename", "-", "-")
	tells(t, "--\n", "basename", "--", "--")
	tells(t, "--\n", "basename", "--", "--", "--")
	tells(t, "a\n", "basename", "a--", "--") // behind an operand it is one, too
	tells(t, "-n\n", "basename", "--", "-n")
	tells(t, ".\n", "dirname", "-")
	tells(t, "-\n", "dirname", "--", "-/a")
	tells(t, ".\n", "dirname", "--", "--")
	for _, args := range []string{
		"basename", "basename --", "basename a b c", "basename -- a b c", "basename a b c d", "basename a -- b", "basename a b --",
		"basename -a", "basename -a b", "basename -s .c b.c", "basename -z a", "basename --help", "basename -/a", "basename -a --",
		"dirname", "dirname --", "dirname a b", "dirname -- a b", "dirname a --", "dirname a b c", "dirname -z a", "dirname -a", "dirname -/a", "dirname --help",
	} {
		refuses(t, strings.Fields(args)...)
	}
	refuses(t, "basename", "", "", "")
	refuses(t, "dirname", "", "")
}

// A model of both: of the parts of a path.

func modelBase(s, suffix string) string {
	l := partsOf(s)
	if len(l) == 0 {
		if len(s) > 0 {
			return "/"
		}
		return ""
	}
	last := l[len(l)-1]
	if n := len(last) - len(suffix); n > 0 && last[n:] == suffix {
		last = last[:n]
	}
	return last
}

// modelDir takes away bytes from the end, one by one.
func modelDir(s string) string {
	l := partsOf(s)
	if len(l) == 0 {
		if len(s) > 0 {
			return "/"
		}
		return "."
	}
	if len(l) == 1 && s[0] != '/' {
		return "."
	}
	for s[len(s)-1] == '/' {
		s = s[:len(s)-1]
	}
	for s[len(s)-1] != '/' {
		s = s[:len(s)-1]
	}
	for len(s) > 1 && s[len(s)-1] == '/' {
		s = s[:len(s)-1]
	}
	return s
}

func partsOf(s string) []string {
	return strings.FieldsFunc(s, func(c rune) bool { return c == '/' })
}

// everyText are all texts of at most so many pieces.
func everyText(most int, pieces ...string) []string {
	l := []string{""}
	for from := 0; most > 0; most-- {
		to := len(l)
		for _, s := range l[from:to] {
			for _, piece := range pieces {
				l = append(l, s+piece)
			}
		}
		from = to
	}
	return l
}

func TestEveryShortPath(t *testing.T) {
	suffixes := everyText(3, "/", "a", ".")
	for _, s := range everyText(7, "/", "a", ".") {
		if got, want := names.Dir(s), modelDir(s); got != want {
			t.Errorf("Dir(%q): %q, not %q", s, got, want)
		}
		for _, suffix := range suffixes {
			if got, want := names.Base(s, suffix), modelBase(s, suffix); got != want {
				t.Errorf("Base(%q, %q): %q, not %q", s, suffix, got, want)
			}
		}
	}
}

// P19.4: Dir(s), a stroke and Base(s) lead where s leads.
func TestPathsThatLead(t *testing.T) {
	x := load(t, []api.Node{
		{Path: "/a", Dir: true},
		{Path: "/a/a", Dir: true},
		{Path: "/a/b", Data: []byte("1")},
		{Path: "/b", Dir: true},
		{Path: "/b/a", Data: []byte("2")},
		{Path: "/c"},
	})
	led := 0
	for _, s := range everyText(7, "/", "a", "b", ".") {
		if strings.Trim(s, "/") == "" {
			continue
		}
		for _, cwd := range []string{"", "/a", "/a/a", "b"} {
			want, e := x.Stat(cwd, s)
			if e != api.OK {
				continue
			}
			led++
			if got, e := x.Stat(cwd, names.Dir(s)+"/"+names.Base(s, "")); e != api.OK || !reflect.DeepEqual(got, want) {
				t.Errorf("%q in %q: %v, error %d, not %v", s, cwd, got, e, want)
			}
		}
	}
	if led < 2000 {
		t.Errorf("%d paths lead somewhere", led)
	}
}

// R1: texts of any length.
func TestLongPaths(t *testing.T) {
	long := strings.Repeat("a", 100000)
	strokes := strings.Repeat("/", 100000)
	for _, c := range []struct{ path, suffix, base, dir string }{
		{strokes, strokes, "/", "/"},
		{long, long, long, "."},
		{long + strokes, long[1:], "a", "."},
		{strokes + long, "a", long[1:], "/"},
		{long + strokes + long + "b" + strokes, "b", long, long},
		{strings.Repeat("a/", 50000), "", "a", strings.Repeat("a/", 49998) + "a"},
	} {
		if got := names.Base(c.path, c.suffix); got != c.base {
			t.Errorf("Base of %d bytes: %d bytes, not %d", len(c.path), len(got), len(c.base))
		}
		if got := names.Dir(c.path); got != c.dir {
			t.Errorf("Dir of %d bytes: %d bytes, not %d", len(c.path), len(got), len(c.dir))
		}
	}
}
