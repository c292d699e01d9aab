package grep_test

import (
	"strings"
	"testing"

	"toolchest/api"
)

// P17.3

func TestSelected(t *testing.T) {
	for _, c := range []struct{ in, args, out string }{
		{"a\nb\ncb\n", "grep b", "b\ncb\n"},
		{"a\nb\ncb\n", "grep -v b", "a\n"},
		{"a\nb\ncb\n", "grep z", ""},
		{"a\nb\ncb\n", "grep -v z", "a\nb\ncb\n"},
		{"a\nb\ncb\n", "grep -v .", ""},
		// No bytes, one line without any, a last line without its line feed.
		{"", "grep a", ""},
		{"", "grep ", ""},
		{"", "grep -v a", ""},
		{"", "grep -n ", ""},
		{"\n", "grep a", ""},
		{"\n", "grep ", "\n"},
		{"\n", "grep ^$", "\n"},
		{"\n", "grep -v a", "\n"},
		{"\n", "grep -v ", ""},
		{"\n\n", "grep -n ", "1:\n2:\n"},
		{"a", "grep a", "a\n"},
		{"b\na", "grep a", "a\n"},
		{"b\na", "grep -v a", "b\n"},
		{"b\na", "grep -v b", "a\n"},
		{"a\n\n", "grep -v a", "\n"},
		{"a\n\n", "grep -x ", "\n"},
		// A line is selected once, however often something stands in it.
		{"aaa\nbab\n", "grep a", "aaa\nbab\n"},
		{"aaa\nbab\n", "grep -e a -e b", "aaa\nbab\n"},
		// Nothing stands in two lines, and no line feed in one.
		{"a\nb\n", "grep a.b", ""},
		{"a\nb\n", "grep -E a[^x]b", ""},
		{"a\nb\n", "grep a$", "a\n"},
		{"a\nb\n", "grep ^b", "b\n"},
		// Bytes of all kinds.
		{"\x00\na\x00b\n\n", "grep \x00", "\x00\na\x00b\n"},
		{"\x00\na\x00b\n\n", "grep -v \x00", "\n"},
		{"\x00\na\x00b\n", "grep ^.$", "\x00\n"},
		{"\xff\n\x80\xfe\na\n", "grep \xfe", "\x80\xfe\n"},
		{"\xff\n\x80\xfe\na\n", "grep ^.$", "\xff\na\n"},
		{"\xff\n\x80\xfe\na\n", "grep -F \x80", "\x80\xfe\n"},
		{"\xff\n\x80\xfe\na\n", "grep -E [\x80-\xff]{2}", "\x80\xfe\n"},
		{"\xff\n\x80\xfe\na\n", "grep -v [^\xff]", "\xff\n"},
		{"\u00e4\n\u00c4\n", "grep -i \u00e4", "\u00e4\n"}, // no letters but those of bytes
		{"\u00e4\n\u00c4\n", "grep -x ..", "\u00e4\n\u00c4\n"},
		{"a\r\nb\r\n", "grep a$", ""},
		{"a\r\nb\r\n", "grep a", "a\r\n"},
		{"a:b\n", "grep -n :", "1:a:b\n"},
		// A line of Line bytes.
		{"12345678\n1234567\n", "grep 8", "12345678\n"},
		{"1234567\n12345678", "grep -n 8", "2:12345678\n"},
	} {
		tells(t, c.in, c.args, c.out)
	}
}

// What is told of one input, and of several, with which letters.
func TestTold(t *testing.T) {
	const in = "b\nab\nz\n"
	for _, c := range []struct {
		args, out string
		status    int
	}{
		{"grep -n b", "1:b\n2:ab\n", 0},
		{"grep -n b -", "1:b\n2:ab\n", 0},
		{"grep -nv b", "3:z\n", 0},
		{"grep -n z", "3:z\n", 0},
		{"grep -n q", "", 1},
		{"grep -c b", "2\n", 0},
		{"grep -cv b", "1\n", 0},
		{"grep -c q", "0\n", 1},
		{"grep -cv .", "0\n", 1},
		{"grep -cn b", "2\n", 0},
		{"grep -l b", "(standard input)\n", 0},
		{"grep -ln b", "(standard input)\n", 0},
		{"grep -lv b", "(standard input)\n", 0},
		{"grep -l q", "", 1},
		{"grep -lv .", "", 1},
		{"grep -q b", "", 0},
		{"grep -qn b", "", 0},
		{"grep -qv b", "", 0},
		{"grep -q q", "", 1},
		{"grep -qv .", "", 1},
		// A file.
		{"grep b f", "b 2\nab 3\n", 0},
		{"grep -n b f", "2:b 2\n3:ab 3\n", 0},
		{"grep -c b f", "2\n", 0},
		{"grep -l b f", "f\n", 0},
		{"grep -l q f", "", 1},
		{"grep -q b f", "", 0},
		{"grep -l b ./d/../f", "./d/../f\n", 0},
		{"grep b e", "", 1},
		{"grep -c b e", "0\n", 1},
		{"grep -cv b e", "0\n", 1},
		{"grep -l b e", "", 1},
		{"grep -lv b e", "", 1},
		// Two and more: names stand ahead; numbers begin anew.
		{"grep b f h", "f:b 2\nf:ab 3\nh:b\n", 0},
		{"grep b h f", "h:b\nf:b 2\nf:ab 3\n", 0},
		{"grep -n b f h", "f:2:b 2\nf:3:ab 3\nh:4:b\n", 0},
		{"grep -nv b f h", "f:1:a 1\nh:1:x\nh:2:B\nh:3:\n", 0},
		{"grep -n b f - h", "f:2:b 2\nf:3:ab 3\n(standard input):1:b\n(standard input):2:ab\nh:4:b\n", 0},
		{"grep z f - h", "(standard input):z\n", 0},
		{"grep b e f", "f:b 2\nf:ab 3\n", 0},
		{"grep b f f", "f:b 2\nf:ab 3\nf:b 2\nf:ab 3\n", 0},
		{"grep gg d/g ./d//g", "d/g:gg\n./d//g:gg\n", 0},
		{"grep q f h -", "", 1},
		{"grep -c b f h e", "f:2\nh:1\ne:0\n", 0},
		{"grep -c b - f", "(standard input):2\nf:2\n", 0},
		{"grep -cv b f h", "f:1\nh:3\n", 0},
		{"grep -c q f h", "f:0\nh:0\n", 1},
		{"grep -cn q h -", "h:0\n(standard input):0\n", 1},
		{"grep -c z h -", "h:0\n(standard input):1\n", 0},
		{"grep -l b f e h -", "f\nh\n(standard input)\n", 0},
		{"grep -ln a f e h", "f\n", 0},
		{"grep -lv b f e h", "f\nh\n", 0},
		{"grep -l q f h", "", 1},
		{"grep -l b f f", "f\nf\n", 0},
		{"grep -q b f h", "", 0},
		{"grep -q x f h", "", 0},
		{"grep -q b e h", "", 0},
		{"grep -q q f h -", "", 1},
		{"grep -qv . e", "", 1},
		// -i, -x, -s beside them.
		{"grep -ic b h f", "h:2\nf:2\n", 0},
		{"grep -xn b h -", "h:4:b\n(standard input):1:b\n", 0},
		{"grep -scx b h -", "h:1\n(standard input):1\n", 0},
		{"grep -sil B f h", "f\nh\n", 0},
	} {
		anyhow(t, job(in, c.args), c.out, "", c.status)
	}
}

// Names are operands as they are written, whatever they say.
func TestNames(t *testing.T) {
	j := job("b\n", "grep -n b ./- a:b - ")
	j.Nodes = []api.Node{file("/-", "b\n"), file("/a:b", "b\n")}
	comes(t, j, "./-:1:b\na:b:1:b\n(standard input):1:b\n", "grep: no such file\n", 2)
	j.Args = []string{"grep", "-l", "b", "./-", "a:b", "/a:b"}
	comes(t, j, "./-\na:b\n/a:b\n", "", 0)
	j.Args = []string{"grep", "-c", "b", "(standard input)", "-"}
	j.Nodes = append(j.Nodes, file("/(standard input)", "x\n"))
	comes(t, j, "(standard input):0\n(standard input):1\n", "", 0)
	j.Args = []string{"grep", "b", "standard output/"}
	comes(t, j, "", "grep: standard output/: no such file\n", 2)
}

// -l reads an input no further than its first selected line, but goes on with the next one; -q ends there. Without them all is read.
func TestReadNoFurther(t *testing.T) {
	const in = "a\nb\nc\nd\ne\nf\n"
	for _, c := range []struct {
		args, left string // of the descriptor 0
		status     int
	}{
		{"grep -l a", in[4:], 0}, // a buffer has four bytes
		{"grep -l c", in[8:], 0},
		{"grep -l f", "", 0},
		{"grep -l x", "", 1},
		{"grep -lv a", in[4:], 0},
		{"grep -lv [abc]", in[8:], 0},
		{"grep -q a", in[4:], 0},
		{"grep -qs c", in[8:], 0},
		{"grep -qv a", in[4:], 0},
		{"grep -q x", "", 1},
		{"grep -q b h -", in, 0},
		{"grep -q q h -", "", 1},
		{"grep -l b h -", in[4:], 0},
		{"grep -l b - h", in[4:], 0},
		{"grep -n a", "", 0},
		{"grep -c a", "", 0},
		{"grep [", in, 2},
		{"grep -f x a -", in, 2},
		{"grep -cq a", in, 2},
	} {
		r := newRig(t, job(in, c.args))
		if got := r.result(); r.left() != c.left || got.Status != c.status {
			t.Errorf("%s: %q was left, not %q, %d", c.args, r.left(), c.left, got.Status)
		}
	}
	// What would fail behind it does not.
	for _, c := range []struct{ args, out string }{
		{"grep -l a k", "k\n"},
		{"grep -l a k f", "k\nf\n"},
		{"grep -q a k", ""},
		{"grep -q a k x d", ""},
		{"grep -q a f x", ""},
		{"grep -qv q h l", ""},
	} {
		for buf := 1; buf < 16; buf++ {
			j := job("", c.args)
			j.Lim.Buf = buf
			comes(t, j, c.out, "", 0)
		}
	}
	comes(t, job("", "grep -l a k x f"), "k\nf\n", "grep: x: no such file\n", 2)
	comes(t, faulty(in, "grep -l a", "..e"), "(standard input)\n", "", 0)
	comes(t, faulty(in, "grep -q a", ".eee"), "", "", 0)
}

// -q neither reads nor opens what stands behind its line: an Open, a Read, and the Close of that file.
func TestQuietEnds(t *testing.T) {
	for _, c := range []struct {
		args  string
		steps int
	}{{"grep -q .", 1}, {"grep -q . - f", 1}, {"grep -q . f h", 3}, {"grep -q . e f h", 6}} {
		if r := comes(t, job("a\nb\nc\n", c.args), "", "", 0); r.Steps > c.steps {
			t.Errorf("%s: %d steps", c.args, r.Steps)
		}
	}
}

// Lines are told as they come: with Buf 2 each Read brings one.
func TestToldAsTheyCome(t *testing.T) {
	for _, c := range []struct{ args, told string }{ // a stroke for each step
		{"grep b", "|||b\n|||b\n|"},
		{"grep -n b", "|||2:b\n|||4:b\n|"},
		{"grep -c b", "||||||2\n"},
		{"grep -l b", "|||(standard input)\n"},
		{"grep -q b", "||"},
		{"grep -v b", "||a\n|||c\n||"},
	} {
		j := job("a\nb\nc\nb\n", c.args)
		j.Lim.Buf = 2
		r := newRig(t, j)
		m := r.start()
		var told strings.Builder
		for seen := 0; !m.Done(); {
			m.Step()
			out := string(r.k.Said(r.out))
			told.WriteString("|" + out[seen:])
			seen = len(out)
		}
		if told.String() != c.told {
			t.Errorf("%s: %q, not %q", c.args, told.String(), c.told)
		}
	}
}
