package merge_test

import (
	"strings"
	"testing"

	"toolchest/api"
)

// P14.1

func TestUniq(t *testing.T) {
	const in = "a\na\nb\nc\nc\nc\na\n"
	for _, c := range []struct{ in, args, out string }{
		{in, "uniq", "a\nb\nc\na\n"},
		{in, "uniq -c", "2 a\n1 b\n3 c\n1 a\n"},
		{in, "uniq -d", "a\nc\n"},
		{in, "uniq -u", "b\na\n"},
		{in, "uniq -d -u", ""}, // with both none
		{in, "uniq -ud", ""},
		{in, "uniq -cc", "2 a\n1 b\n3 c\n1 a\n"},
		{in, "uniq -dd", "a\nc\n"},
		{in, "uniq -uu", "b\na\n"},
		{in, "uniq -", "a\nb\nc\na\n"},
		{in, "uniq -c -- -", "2 a\n1 b\n3 c\n1 a\n"},
		// No lines, one, a last one without a line feed.
		{"", "uniq", ""},
		{"", "uniq -c", ""},
		{"", "uniq -d", ""},
		{"", "uniq -u", ""},
		{"\n", "uniq", "\n"},
		{"\n", "uniq -c", "1 \n"},
		{"\n", "uniq -d", ""},
		{"\n", "uniq -u", "\n"},
		{"a", "uniq", "a\n"},
		{"a\n", "uniq", "a\n"},
		{"a", "uniq -c", "1 a\n"},
		{"a", "uniq -d", ""},
		{"a", "uniq -u", "a\n"},
		{"a\na", "uniq", "a\n"},
		{"a\na", "uniq -c", "2 a\n"},
		{"a\na", "uniq -d", "a\n"},
		{"a\na", "uniq -u", ""},
		{"a\nb", "uniq -u", "a\nb\n"},
		{"a\nb", "uniq -d", ""},
		{"a\nb\nb", "uniq -d", "b\n"},
		// Lines of which all are the same.
		{strings.Repeat("x\n", 12), "uniq", "x\n"},
		{strings.Repeat("x\n", 12), "uniq -c", "12 x\n"},
		{strings.Repeat("x\n", 12), "uniq -d", "x\n"},
		{strings.Repeat("x\n", 12), "uniq -u", ""},
		{strings.Repeat("\n", 12), "uniq -c", "12 \n"},
		{strings.Repeat("\n", 12), "uniq", "\n"},
		// A line that is the beginning of another one; empty lines; bytes of all kinds.
		{"a\nab\nab\na\n", "uniq -c", "1 a\n2 ab\n1 a\n"},
		{"\na\n\n\na", "uniq -c", "1 \n1 a\n2 \n1 a\n"},
		{"a\nA\n", "uniq -c", "1 a\n1 A\n"},
		{"a\na \na\n", "uniq -c", "1 a\n1 a \n1 a\n"},
		{"\xff\n\xff\n\xfe\n\x00\n\x00\n", "uniq -c", "2 \xff\n1 \xfe\n2 \x00\n"},
		{"\u00e4\n\u00e4\n\u00c4\n", "uniq -c", "2 \u00e4\n1 \u00c4\n"},
		{"a\r\na\n", "uniq -c", "1 a\r\n1 a\n"},
		{"2 a\n2 a\n", "uniq -c", "2 2 a\n"},
	} {
		anyhow(t, job(c.in, c.args), c.out)
	}
}

// -f and -s: which lines are the same; with -c the first one of them is told, and how many there are.
func TestUniqRests(t *testing.T) {
	for _, c := range []struct{ in, options, out string }{
		{"1 a\n2 a\n3 b\n", "", "1 1 a\n1 2 a\n1 3 b\n"},
		{"1 a\n2 a\n3 b\n", "-f 0", "1 1 a\n1 2 a\n1 3 b\n"},
		{"1 a\n2 a\n3 b\n", "-f 1", "2 1 a\n1 3 b\n"},
		{"1 a\n2 a\n3 b\n", "-f1", "2 1 a\n1 3 b\n"},
		{"1 a\n2 a\n3 b\n", "-f 2", "3 1 a\n"},
		{"1 a\n2 a\n3 b\n", "-f 2147483647", "3 1 a\n"},
		{"1 a\n2 a\n3 b\n", "-f 001", "2 1 a\n1 3 b\n"},
		{"1 2 a\n3 4 a\n5 6 b\n", "-f 1", "1 1 2 a\n1 3 4 a\n1 5 6 b\n"},
		{"1 2 a\n3 4 a\n5 6 b\n", "-f 2", "2 1 2 a\n1 5 6 b\n"},
		// Blanks ahead of a field are of it; those behind it are left, and count.
		{"1 a\n  2 a\n\t3 a\n", "-f 1", "3 1 a\n"},
		{"1 a\n1  a\n1\ta\n1 a\n", "-f 1", "1 1 a\n1 1  a\n1 1\ta\n1 1 a\n"},
		{"1 2 a\n1  2 a\n1\t 2 a\n", "-f 2", "3 1 2 a\n"},
		{"1 \n1\n", "-f 1", "1 1 \n1 1\n"},
		{"1 \n1\n", "-f 2", "2 1 \n"},
		{"1 \t \n1\n", "-f 2", "2 1 \t \n"},
		{" \n\n", "-f 1", "2  \n"},
		{" \n\n", "", "1  \n1 \n"},
		{" a\nb\n", "-f 1", "2  a\n"},
		{"\ta b\nc b\n", "-f1", "2 \ta b\n"},
		{"a\vb\na\fc\n", "-f 1", "2 a\vb\n"}, // no other bytes are blanks
		{"a\xa0b\na\x00c\n", "-f 1", "2 a\xa0b\n"},
		{"\u00e4 a\n\u00c4 a\n\xff a\n", "-f 1", "3 \u00e4 a\n"},
		// Of a line that has fewer fields nothing is left.
		{"a b\nc\n\nd\n", "-f 2", "4 a b\n"},
		{"a b c\nd\n\ne\n", "-f 2", "1 a b c\n3 d\n"},
		{"a\n\nb b\n", "-f 1", "2 a\n1 b b\n"},
		// -s
		{"xa\nya\nxb\n", "-s 0", "1 xa\n1 ya\n1 xb\n"},
		{"xa\nya\nxb\n", "-s 1", "2 xa\n1 xb\n"},
		{"xa\nya\nxb\n", "-s1", "2 xa\n1 xb\n"},
		{"xa\nya\nxb\n", "-s 2", "3 xa\n"},
		{"xa\nya\nxb\n", "-s 2147483647", "3 xa\n"},
		{"xa\n\ny\nzb\n", "-s 1", "1 xa\n2 \n1 zb\n"},
		{"a\n\nb\nccc\n", "-s 3", "4 a\n"},
		{"\u00e4\n\u00c4\n", "-s 1", "1 \u00e4\n1 \u00c4\n"}, // a byte, not a letter
		{"\u00e4\n\u00c4\n", "-s 2", "2 \u00e4\n"},
		{" a\n\ta\n", "-s 1", "2  a\n"},
		// -s behind -f, wherever they stand.
		{"1 xa\n2 ya\n3 xb\n", "-f 1 -s 1", "1 1 xa\n1 2 ya\n1 3 xb\n"}, // the blank is the first byte
		{"1 xa\n2 ya\n3 xb\n", "-f 1 -s 2", "2 1 xa\n1 3 xb\n"},
		{"1 xa\n2 ya\n3 xb\n", "-s 2 -f 1", "2 1 xa\n1 3 xb\n"},
		{"1 xa\n2 ya\n3 xb\n", "-f1 -s3", "3 1 xa\n"},
		{"1 a\n2\ta\n", "-f 1 -s 1", "2 1 a\n"},
		{"1\n2 a\n", "-f 1 -s 2", "2 1\n"},
		{"1\n2 ab\n", "-f 1 -s 2", "1 1\n1 2 ab\n"},
		{"1\n2 ab\n", "-f 2147483647 -s 2147483647", "2 1\n"},
		// Of several the last one.
		{"1 a\n2 a\n3 b\n", "-f 2 -f 1", "2 1 a\n1 3 b\n"},
		{"1 a\n2 a\n3 b\n", "-f 1 -f 0", "1 1 a\n1 2 a\n1 3 b\n"},
		{"xa\nya\nxb\n", "-s 9 -s 1", "2 xa\n1 xb\n"},
		{"xa\nya\nxb\n", "-s 1 -f 5 -f 0 -s 0", "1 xa\n1 ya\n1 xb\n"},
		{"1 a\n2 a\n3 b\n", "-f x -f 1", "2 1 a\n1 3 b\n"},
	} {
		args := append([]string{"uniq", "-c"}, strings.Fields(c.options)...)
		anyhow(t, jobOf(c.in, args...), c.out)
	}
	anyhow(t, job("1 a\n2 a\n3 b\n", "uniq -df1"), "1 a\n")
	anyhow(t, job("1 a\n2 a\n3 b\n", "uniq -uf1"), "3 b\n")
	anyhow(t, job("1 a\n2 a\n3 b\n", "uniq -f 1"), "1 a\n3 b\n")
}

// All lines of a group are held against its first one.
func TestUniqFirstOfAGroup(t *testing.T) {
	anyhow(t, job("1 x\n2 x\n2 y\n2 x\n1 x\n", "uniq -f 1"), "1 x\n2 y\n2 x\n")
	anyhow(t, job("1 x\n2 x\n2 y\n2 x\n1 x\n", "uniq -f 1 -c"), "2 1 x\n1 2 y\n2 2 x\n")
	anyhow(t, job("ab\ncb\ndb\nb\n", "uniq -s 1 -c"), "3 ab\n1 b\n")
}

func TestUniqUsage(t *testing.T) {
	for _, args := range []string{
		"uniq -x", "uniq -1", "uniq -C", "uniq -i", "uniq -w 1", "uniq -D", "uniq --count", "uniq -cx", "uniq -f 1 -x",
		"uniq -cd", "uniq -cu", "uniq -cdu", "uniq -dc", "uniq -u -c", "uniq -c -f 1 -d", "uniq -c -d e", "uniq -c -u e z",
		"uniq -f", "uniq -s", "uniq -cf", "uniq -f 1 -s", "uniq -f x", "uniq -f -1", "uniq -f +1", "uniq -f 1x", "uniq -f 0x1", "uniq -f 1.", "uniq -f 2147483648", "uniq -f 99999999999999999999999",
		"uniq -s x", "uniq -s -1", "uniq -s +1", "uniq -s 2147483648", "uniq -s 99999999999999999999999", "uniq -f 1 -s x", "uniq -f x -s 1", "uniq -f 1 -f x", "uniq -s 1 -s 2147483648",
		"uniq f e z", "uniq - - -", "uniq - z z", "uniq -c f e z", "uniq x y z", "uniq - -c z", "uniq -- - z z", "uniq f e z z",
	} {
		refuses(t, strings.Fields(args)...)
	}
	refuses(t, "uniq", "-f", "")
	refuses(t, "uniq", "-s", "")
	refuses(t, "uniq", "-f", " 1")
	refuses(t, "uniq", "-s", "1 ")
	refuses(t, "uniq", "", "", "")
	comes(t, job("a\na", "uniq -- -c"), "", "uniq: -c: no such file\n", 1)
}

func TestUniqInputs(t *testing.T) {
	const f = "a 1\na 2\nb 3\nd 4\n"
	comes(t, job("q", "uniq f"), f, "", 0)
	comes(t, job("q", "uniq -c e"), "", "", 0)
	comes(t, job("q", "uniq ./d/../f"), f, "", 0)
	for buf := 1; buf < 12; buf++ {
		for _, c := range []struct{ args, out, errs string }{
			{"uniq x", "", "uniq: x: no such file\n"},
			{"uniq d", "", "uniq: d: is a directory\n"},
			{"uniq f/x", "", "uniq: f/x: not a directory\n"},
			{"uniq l", "", "uniq: l: line too long\n"},
			{"uniq -c k", "1 a\n", "uniq: k: line too long\n"},
			{"uniq -d k", "", "uniq: k: line too long\n"},
		} {
			j := job("q", c.args)
			j.Lim.Buf = buf
			comes(t, j, c.out, c.errs, 1)
			j.Faults = faults(strings.Repeat("2i1", 20))
			comes(t, j, c.out, c.errs, 1)
		}
	}
	comes(t, jobOf("q", "uniq", ""), "", "uniq: no such file\n", 1)
}

// A line of Line bytes, and a longer one.
func TestUniqLongLines(t *testing.T) {
	for _, c := range []struct {
		in, out, errs string
		status        int
	}{
		{"12345678\n12345678\n", "2 12345678\n", "", 0},
		{"12345678\n12345678", "2 12345678\n", "", 0},
		{"12345678\n1234567\n", "1 12345678\n1 1234567\n", "", 0},
		{"123456789\n", "", "uniq: -: line too long\n", 1},
		{"a\na\n123456789\na\n", "2 a\n", "uniq: -: line too long\n", 1},
		{"a\na\n123456789", "2 a\n", "uniq: -: line too long\n", 1},
		{"12345678\n123456789\n12345678\n", "1 12345678\n", "uniq: -: line too long\n", 1},
	} {
		for buf := 1; buf < 30; buf++ {
			j := job(c.in, "uniq -c")
			j.Lim.Buf = buf
			comes(t, j, c.out, c.errs, c.status)
		}
	}
}

// writes fails, if something else is told to the file /z, or to the descriptor 1, or if the tree is another one.
func writes(t *testing.T, j api.Job, path, data, errs string, status int) {
	t.Helper()
	comesTo(t, j, api.Result{Err: []byte(errs), Status: status, Nodes: with(j.Nodes, path, data)})
}

func TestUniqOutput(t *testing.T) {
	const in = "a\na\nb\n"
	for _, signs := range []string{"", "i1i2i3i4", strings.Repeat("1", 100)} {
		for _, c := range []struct{ args, path, data string }{
			{"uniq - z", "/z", "a\nb\n"}, // it is made
			{"uniq -c - z", "/z", "2 a\n1 b\n"},
			{"uniq -d - z", "/z", "a\n"},
			{"uniq -u - z", "/z", "b\n"},
			{"uniq -du - z", "/z", ""},
			{"uniq - f", "/f", "a\nb\n"}, // what it said is gone
			{"uniq f e", "/e", "a 1\na 2\nb 3\nd 4\n"},
			{"uniq -f 9 f e", "/e", "a 1\n"},
			{"uniq f d/g", "/d/g", "a 1\na 2\nb 3\nd 4\n"},
			{"uniq e f", "/f", ""},
			{"uniq e z", "/z", ""},
			{"uniq f ./d/../z", "/z", "a 1\na 2\nb 3\nd 4\n"},
			{"uniq -- f z", "/z", "a 1\na 2\nb 3\nd 4\n"},
			{"uniq f -", "/-", "a 1\na 2\nb 3\nd 4\n"}, // a file, whatever its name
			{"uniq - -c", "/-c", "a\nb\n"},
		} {
			writes(t, faulty(in, c.args, signs), c.path, c.data, "", 0)
		}
	}
	comes(t, jobOf("a\na\n", "uniq", "-", "standard output/"), "", "uniq: standard output/: not a directory\n", 1)
}

// An OUTPUT that is the INPUT is emptied ahead of the first line.
func TestUniqOutputIsInput(t *testing.T) {
	writes(t, job("a\na\n", "uniq f f"), "/f", "", "", 0)
	writes(t, job("a\na\n", "uniq -c f ./f"), "/f", "", "", 0)
	j := job("q", "uniq f w")
	j.Nodes[3].Ino = 1
	again := j.Nodes[3]
	again.Path = "/w"
	j.Nodes = append(j.Nodes, again) // one file, two names
	want := with(with(j.Nodes, "/f", ""), "/w", "")
	comesTo(t, j, api.Result{Nodes: want})
}

// An OUTPUT that can't be opened: nothing else is done, nothing is read.
func TestUniqOutputThatFails(t *testing.T) {
	for _, c := range []struct{ args, errs string }{
		{"uniq - d", "uniq: d: is a directory\n"},
		{"uniq f d", "uniq: d: is a directory\n"},
		{"uniq d d", "uniq: d: is a directory\n"}, // of the OUTPUT: the INPUT is not read
		{"uniq l d", "uniq: d: is a directory\n"},
		{"uniq k d/g/x", "uniq: d/g/x: not a directory\n"},
		{"uniq -c - y/z", "uniq: y/z: no such file\n"},
		{"uniq - f/", "uniq: f/: not a directory\n"},
		{"uniq - " + strings.Repeat("n", 33), "uniq: " + strings.Repeat("n", 33) + ": bad name\n"},
	} {
		r := comes(t, job("a\na\n", c.args), "", c.errs, 1)
		if r.Peak != 0 || r.Steps > 3 {
			t.Errorf("%s: %d steps, %d bytes were held", c.args, r.Steps, r.Peak)
		}
	}
	comes(t, jobOf("a\na\n", "uniq", "-", ""), "", "uniq: no such file\n", 1)
	comes(t, faulty("a\na\n", "uniq - d", "s"), "", "", 1) // what can't be said
}

// It is opened when the INPUT has been: where that can't be opened, the OUTPUT is left as it is.
func TestUniqOutputWithoutInput(t *testing.T) {
	comes(t, job("a\na\n", "uniq x f"), "", "uniq: x: no such file\n", 1)
	comes(t, job("a\na\n", "uniq x z"), "", "uniq: x: no such file\n", 1)
	comes(t, job("a\na\n", "uniq x d"), "", "uniq: x: no such file\n", 1)
	comes(t, job("a\na\n", "uniq x y/z"), "", "uniq: x: no such file\n", 1)
	// One that can be opened, and not read.
	writes(t, job("a\na\n", "uniq d f"), "/f", "", "uniq: d: is a directory\n", 1)
	writes(t, job("a\na\n", "uniq l z"), "/z", "", "uniq: l: line too long\n", 1)
	writes(t, job("a\na\n", "uniq k z"), "/z", "a\n", "uniq: k: line too long\n", 1)
	writes(t, faulty("a\na\n", "uniq - z", "e"), "/z", "", "uniq: -: input/output error\n", 1)
}

// Buf is 4: each Read has a sign, and each Write.
func TestUniqFailures(t *testing.T) {
	const in = "a\na\nb\nc\n"
	for _, c := range []struct {
		args, signs, out, errs string
		status                 int
	}{
		{"uniq", "e", "", "uniq: -: input/output error\n", 1},
		{"uniq", ".e", "a\n", "uniq: -: input/output error\n", 1},
		{"uniq -c", ".e", "2 a\n", "uniq: -: input/output error\n", 1},
		{"uniq -c", "3e", "1 a\n", "uniq: -: input/output error\n", 1},
		{"uniq -c", "..e", "", "uniq: standard output: input/output error\n", 1},
		{"uniq -c", "..s", "", "uniq: standard output: no space left\n", 1},
		{"uniq -c", "..p", "", "uniq: standard output: broken pipe\n", 1},
		{"uniq -c", "..3s", "2 a", "uniq: standard output: no space left\n", 1},
		{"uniq -c", "...p", "2 a\n", "uniq: standard output: broken pipe\n", 1},
		{"uniq -c", "...i1s", "2 a\n1", "uniq: standard output: no space left\n", 1},
		{"uniq -c", "....e", "2 a\n1 b\n1 c\n", "uniq: -: input/output error\n", 1},
		{"uniq -c", "....ie", "2 a\n1 b\n1 c\n", "uniq: -: input/output error\n", 1},
		{"uniq -c", ".....e", "2 a\n1 b\n", "uniq: standard output: input/output error\n", 1},
		{"uniq -c", "....e.p", "2 a\n1 b\n", "uniq: -: input/output error\nuniq: standard output: broken pipe\n", 1},
		{"uniq -c", "..ss", "", "", 1}, // what can't be said
		{"uniq", "ee", "", "", 1},
		{"uniq", "ss", "a\nb\nc\n", "", 0}, // a Read does not mind it
		{"uniq x", "e", "", "", 1},
		{"uniq -x", "e", "", "", 1},
	} {
		comes(t, faulty(in, c.args, c.signs), c.out, c.errs, c.status)
	}
	for _, c := range []struct{ signs, data, errs string }{
		{"..s", "", "uniq: z: no space left\n"},
		{"..e", "", "uniq: z: input/output error\n"},
		{"..p", "", "uniq: z: broken pipe\n"},
		{"..1s", "a", "uniq: z: no space left\n"},
		{"...p", "a\n", "uniq: z: broken pipe\n"},
		{".....1p", "a\nb\nc", "uniq: z: broken pipe\n"},
		{"....e", "a\nb\nc\n", "uniq: -: input/output error\n"},
		{"..se", "", ""},
	} {
		writes(t, faulty(in, "uniq - z", c.signs), "/z", c.data, c.errs, 1)
	}
}

// A file has 8192 bytes at most: what is more can't be written there.
func TestUniqOutputThatIsFull(t *testing.T) {
	in := strings.Repeat("1234567\nabcdefg\n", 512)
	j := job(in, "uniq - z")
	j.Lim.Buf = 100
	writes(t, j, "/z", in, "", 0)
	j.In = append(j.In, "x\n"...)
	writes(t, j, "/z", in, "uniq: z: no space left\n", 1)
	j.In = []byte("abc\n" + in)
	writes(t, j, "/z", "abc\n"+in[:8188], "uniq: z: no space left\n", 1)
}

func TestUniqDescriptors(t *testing.T) {
	r := newRig(t, job("a\na\n", "uniq"))
	r.put(r.out)
	r.ends("", "uniq: -: invalid\n", 1)
	r = newRig(t, job("a\na\n", "uniq"))
	r.put(0)
	r.ends("", "uniq: -: bad descriptor\n", 1)
	r = newRig(t, job("a\na\n", "uniq"))
	r.put(r.in, 0)
	r.ends("", "uniq: standard output: bad descriptor\n", 1)
	r = newRig(t, job("a\na\n", "uniq - z"))
	r.put(r.in, 0) // nothing is told there
	if got := r.ends("", "", 0); dataOf(got.Nodes, "z") != "a\n" {
		t.Errorf("the tree is %v", got.Nodes)
	}
	r = newRig(t, job("a\na\n", "uniq x"))
	r.put(r.in, r.out, 0)
	r.ends("", "", 1)
	// All descriptors are taken, or all but one.
	for taken := 15; taken <= 16; taken++ {
		r = newRig(t, job("a\na\n", "uniq f z"))
		for fd := 3; fd < taken; fd++ {
			r.p.Table().Put(fd, r.in)
		}
		r.ends("", []string{"uniq: z: too many\n", "uniq: f: too many\n"}[taken-15], 1)
	}
}

// What is held: a group's first line, and what the reader does, however many lines a group has.
func TestUniqHolds(t *testing.T) {
	for buf := 1; buf < 40; buf++ {
		for _, c := range []struct{ in, out string }{
			{strings.Repeat("12345678\n", 100), "100 12345678\n"},
			{strings.Repeat("12345678\n12345679\n", 3), strings.Repeat("1 12345678\n1 12345679\n", 3)},
		} {
			j := job(c.in, "uniq -c")
			j.Lim.Buf = buf
			if r := comes(t, j, c.out, "", 0); r.Peak > 2*8+buf || r.Peak < 2*8 {
				t.Errorf("Buf %d: %d bytes were held", buf, r.Peak)
			}
		}
	}
}
