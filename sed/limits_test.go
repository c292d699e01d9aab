package sed_test

import (
	"strings"
	"testing"

	"toolchest/api"
)

// limited is a job of a script, where a line may have more than a space.
func limited(in, script string) api.Job {
	j := jobOf(in, "sed", script)
	j.Lim = lim(64, 20000)
	return j
}

func xs(n int) string { return strings.Repeat("x", n) }

// P18.6: a space of 8192 bytes, and of one more. A line may have more, as long as nothing is put to it.
func TestSpaces(t *testing.T) {
	const most = api.MaxSpace
	for _, c := range []struct{ in, script, out, errs string }{
		// s: what came of it all.
		{xs(most-1) + "\n", "s/$/y/", xs(most-1) + "y\n", ""},
		{xs(most) + "\n", "s/$/y/", "", noRoom},
		{xs(most) + "\n", "s/x/y/", "y" + xs(most-1) + "\n", ""},
		{xs(most) + "\n", "s/x/yy/", "", noRoom},
		{xs(most) + "\n", "s/x/yy/512", "", noRoom},
		{xs(most) + "\n", "s/x/yy/p", "", noRoom},
		{xs(most) + "\n", "s/^x/&y/;s/$/z/", "", noRoom},
		{xs(most/2) + "\n", "s/x/&&/g", xs(most) + "\n", ""},
		{xs(most/2) + "\n", "s/.*/&&/", xs(most) + "\n", ""},
		{xs(most/2) + "\n", "s/.*/&&x/", "", noRoom},
		{xs(most/2) + "z\n", "s/x/&&/g", "", noRoom},
		{xs(most/2) + "z\n", "s/x/&&/g;s/z//", "", noRoom},
		{xs(most/2) + "z\n", "s/z//;s/x/&&/g", xs(most) + "\n", ""},
		{"x\n", "s/x/" + xs(most) + "/", xs(most) + "\n", ""},
		{"x\n", "s/x/" + xs(most+1) + "/", "", noRoom},
		{"x\n", "s/y/" + xs(most+1) + "/", "x\n", ""},
		{"xz\n", "s/x/" + xs(most-1) + "/", xs(most-1) + "z\n", ""},
		{"xz\n", "s/x/" + xs(most) + "/", "", noRoom},
		{"zx\n", "s/x/" + xs(most) + "/", "", noRoom},
		{"x\n", "s/x*/" + strings.Repeat("&", most) + "/", xs(most) + "\n", ""},
		{"x\n", "s/x*/" + strings.Repeat("&", most+1) + "/", "", noRoom},
		{"\n", "s/x*/" + strings.Repeat("&", 3*most) + "/", "\n", ""},
		{xs(200) + "\n", "s/x*/" + strings.Repeat("&", 41) + "/;s/x/yyy/g", "", noRoom},
		{"x\n", strings.Repeat("s/.*/&&/;", 13), xs(most) + "\n", ""},
		{"x\n", strings.Repeat("s/.*/&&/;", 14), "", noRoom},
		// A line that is longer: what s makes of it is a space of more, if it finds something and does not make it short enough.
		{xs(most+1) + "\n", "s/y/z/", xs(most+1) + "\n", ""},
		{xs(most+1) + "\n", "s/x/y/", "", noRoom},
		{xs(most+1) + "\n", "s/x//", xs(most) + "\n", ""},
		{xs(most+2) + "\n", "s/x//", "", noRoom},
		{xs(20000) + "\n", "s/x*/y/", "y\n", ""},
		{xs(20000) + "\n", "p;y/x/z/;s/z*//", xs(20000) + "\n\n", ""},
		// G, H.
		{xs(most-1) + "\n", "G", xs(most-1) + "\n\n", ""},
		{xs(most) + "\n", "G", "", noRoom},
		{xs(most/2) + "\n", "s/x//;h;G", xs(most/2-1) + "\n" + xs(most/2-1) + "\n", ""},
		{xs(most/2) + "\n", "h;s/x//;G", xs(most/2-1) + "\n" + xs(most/2) + "\n", ""},
		{xs(most/2) + "\n", "h;G", "", noRoom},
		{xs(most+1) + "\n", "G", "", noRoom},
		{"a\n" + xs(most+1) + "\n", "$!{h;d\n};x;G", "", noRoom},
		{xs(most-1) + "\n", "H;x", "\n" + xs(most-1) + "\n", ""},
		{xs(most) + "\n", "H", "", noRoom},
		{xs(most/2) + "\n", "h;H", "", noRoom},
		{xs(most/2) + "\n", "h;s/x//;H;g", xs(most/2) + "\n" + xs(most/2-1) + "\n", ""},
		{xs(most+1) + "\n", "H", "", noRoom},
		{strings.Repeat("1234567\n", 1023), "H;$!d;s/.*//;x;s/.*//", "\n", ""},
		{strings.Repeat("1234567\n", 1024), "H;$!d;s/.*//;x;s/.*//", "\n", ""},
		{strings.Repeat("1234567\n", 1025), "H;$!d;s/.*//;x;s/.*//", "", noRoom},
		// N.
		{"a\n" + xs(most-2) + "\n", "N", "a\n" + xs(most-2) + "\n", ""},
		{"a\n" + xs(most-1) + "\n", "N", "", noRoom},
		{xs(most-1) + "\n\n", "N", xs(most-1) + "\n\n", ""},
		{xs(most) + "\n\n", "N", "", noRoom},
		{xs(most+1) + "\n\n", "N", "", noRoom},
		{"\n" + xs(most+1) + "\n", "N", "", noRoom},
		{strings.Repeat("1234567\n", 1024), ":x;N;bx", "", ""}, // there is no next line
		{strings.Repeat("1234567\n", 1025), ":x;N;bx", "", noRoom},
		// g, h, x, y, n, D and all that is told let a space be what a line is.
		{xs(most+1) + "\n", "h;g;x;y/x/z/;p;P", strings.Repeat(strings.Repeat("z", most+1)+"\n", 3), ""},
		{xs(9000) + "\n" + xs(9001) + "\n", "n;h;s/.*//;x", xs(9000) + "\n" + xs(9001) + "\n", ""},
		{xs(9000) + "\na\n", "h;n;g", xs(9000) + "\n" + xs(9000) + "\n", ""},
		{xs(9000) + "\na\n", "x;$!d;D", "", ""},
		// Nothing else is told behind it, nor is another line read.
		{xs(most) + "\na\n", "=;p;a\\\none\nG;=", "1\n" + xs(most) + "\n", noRoom},
		{"a\n" + xs(most) + "\nb\n", "$!d;p;G", "b\nb\n\n", ""},
		{"a\n" + xs(most) + "\nb\n", "p;H", "a\na\n" + xs(most) + "\n", noRoom},
		{"a\n" + xs(most) + "\nb\n", "a\\\none\nN", "one\n", noRoom},
		{"a\n" + xs(most) + "\nb\n", "i\\\none\ns/.*/&&/p", "one\naa\naa\none\n", noRoom},
	} {
		j := limited(c.in, c.script)
		for _, signs := range []string{"", "i1i2i3i4", "ii2iii"} {
			j.Faults = faults(signs)
			comes(t, j, c.out, c.errs, min(len(c.errs), 1))
		}
	}
	// The inputs behind are not looked for, once there is no room.
	j := limited("a\n"+xs(most)+"\n", "N")
	j.Args = append(j.Args, "-", "x")
	comes(t, j, "", noRoom, 1)
}

// P18.6: 1000 times b, t and D may go on since a line was read.
func TestJumps(t *testing.T) {
	const (
		byT = ":x\ns/x//;tx\n"
		byB = ":y\ns/y//;/y/by\n"
		byD = "s/z/\\\n/g;D"
	)
	ys := strings.Repeat("y", 1001)
	zs := strings.Repeat("z", 1000)
	for _, c := range []struct{ in, script, out, errs string }{
		{xs(1000) + "\n", byT, "\n", ""},
		{xs(1001) + "\n", byT, "", tooMany},
		{xs(1001) + "\n", "p;" + byT + "p", xs(1001) + "\n", tooMany},
		{ys + "\n", byB, "\n", ""},
		{ys + "y\n", byB, "", tooMany},
		{zs + "\n", byD, "", ""},
		{zs + "z\n", byD, "", tooMany},
		// All together.
		{xs(600) + strings.Repeat("y", 401) + "\n", byT + byB, "\n", ""},
		{xs(600) + strings.Repeat("y", 402) + "\n", byT + byB, "", tooMany},
		{xs(999) + "y\n", byT + byB + "b", "\n", ""},
		{xs(1000) + "y\n", byT + byB, "\n", ""},
		{xs(1000) + "\n", byT + "b", "", tooMany}, // on to the cycle's end, too
		{xs(1000) + "\n", byT + "s/^$/-/;t", "", tooMany},
		{xs(1000) + "\n", byT + "s/$/a\\\nb/;D", "", tooMany},
		{xs(1000) + "z\n", byT + `y/z/\n/;P;D`, "\n", tooMany},
		{xs(999) + "z\n", byT + `y/z/\n/;P;D`, "\n\n", ""},
		// What does not go on does not count.
		{xs(1000) + "\n", byT + "t\nt\ntx\n!b\n2bx\nD", "", ""},
		{xs(1000) + "\n", byT + "/q/{b\n};d", "", ""},
		// Since a line was read: in the next cycle, by n and by N.
		{strings.Repeat(xs(1000)+"\n", 3), byT, "\n\n\n", ""},
		{xs(1000) + "\n" + ys + "\n", byT + "n\n" + byB, "\n\n", ""},
		{xs(1000) + "\n" + ys + "\n", byT + "N\n" + byB, "\n\n", ""},
		{xs(1000) + "\n" + ys + "y\n", byT + "n\n" + byB, "\n", tooMany},
		{xs(1000) + "\n" + ys + "y\n", byT + "N\n" + byB, "", tooMany},
		{xs(1000) + "\n", byT + "$!n\n" + byB + "b", "", tooMany},
		// Nothing else is told, nor is another line read.
		{"a\nb\n", ":x;bx", "", tooMany},
		{"a\nb\n", "a\\\none\n:x;bx", "", tooMany},
		{"a\nb\n", "p;:x;$bx", "a\na\nb\n", tooMany},
		{"a\nb\n", ":x;=;bx", strings.Repeat("1\n", 1001), tooMany},
		{"a\n", ":x;i\\\none\ns/^/x/;tx", strings.Repeat("one\n", 1001), tooMany},
		{"a\n", "s/^/x\\\n/;P;D", strings.Repeat("x\n", 1001), tooMany},
		{"a\n", "a\\\none\ns/^/x\\\n/;D", strings.Repeat("one\n", 1001), tooMany}, // D tells texts, and then goes on
		{"a\nb\n", "{:x\n{bx\n}\n}", "", tooMany},
	} {
		j := limited(c.in, c.script)
		for _, signs := range []string{"", "i1i2i3i4", "ii2iii"} {
			j.Faults = faults(signs)
			comes(t, j, c.out, c.errs, min(len(c.errs), 1))
		}
	}
	// The inputs behind are not opened.
	j := job("a\n", "sed :x;bx - x")
	comes(t, j, "", noX+tooMany, 1) // behind the last line of `-` it was looked for
	j = job("a\nb\n", "sed :x;bx - x")
	comes(t, j, "", tooMany, 1)
}

// Where what D tells can't be told, it does not go on, so that nothing else is said.
func TestNoJumpBehindAFailure(t *testing.T) {
	j := limited(strings.Repeat("z", 1002)+"\n", "a\\\none\ns/z/\\\n/g;D")
	comes(t, j, strings.Repeat("one\n", 1001), tooMany, 1)
	for n := 1; n < 1001; n += 333 {
		j.Faults = faults(strings.Repeat(".", n+16) + "s")
		comes(t, j, strings.Repeat("one\n", n-1), "sed: standard output: no space left\n", 1)
	}
}

// P18.7: what is held. Without the letters that keep more: a line and a buffer, however much is put in, and also where the next input is read while the last line of one is there.
func TestHeld(t *testing.T) {
	in := strings.Repeat("12345678\nabcdefgh\n", 50)
	for buf := 1; buf < 40; buf++ {
		for _, args := range []string{"sed p", "sed -n $p", "sed =", "sed n;d", "sed -n $=", "sed s/1/&&&&&/g", "sed s/.*/&&&&/;p", "sed y/1/2/", "sed a\\\none", "sed -f cut", "sed p - - -", "sed p s s s", "sed -n n;p s s - s", "sed :x;s/1//;tx", "sed -n $p s e e s x k s", "sed 3q", "sed -f -"} {
			j := job(in, args)
			j.Lim.Buf = buf
			j.Nodes = append(j.Nodes, file("/s", "abcdefgh"))
			if r := run(t, j); r.Peak > 8+buf || r.Peak < min(buf, 8) {
				t.Errorf("%s, Buf %d: %d bytes were held", args, buf, r.Peak)
			}
		}
	}
	// A line is held as long as it is there, also when its input is closed: 8 bytes, and the byte that was looked at, and at last the line of the second one alone.
	j := jobOf("", "sed", "", "s", "t")
	j.Lim = lim(1, 8)
	j.Nodes = append(j.Nodes, file("/s", "abcdefgh"), file("/t", "a\n"))
	if r := run(t, j); r.Peak != 9 {
		t.Errorf("%d bytes were held", r.Peak)
	}
	// With them: the spaces, too. (Of a line's 8 bytes and of 50 lines, as they come together.)
	for _, c := range []struct {
		script      string
		least, most int
	}{
		{"H;$!d;x", 450, 470},
		{":x;$!{N;bx\n}", 449 + 8, 480},
		{"G;h;$!d", 450, 950},
		{"h", 16, 40},
		{"x", 16, 40},
		{"g", 16, 40},
		{"D", 16, 40},
		{"N;D", 16, 40},
		{"s/.*/&&&&&&/;h", 96, 140},
		{"s/.*/&&&&&&&&&&/;s/.*/&&&&&&&&&&/;s/.*/&&&&&&&&&&/;h", 16000, 16100},
	} {
		for buf := 1; buf < 9; buf++ {
			j := jobOf(strings.Repeat("12345678\n", 50), "sed", c.script)
			j.Lim = lim(buf, 8)
			if r := run(t, j); r.Peak < c.least || r.Peak > c.most+buf {
				t.Errorf("%s, Buf %d: %d bytes were held", c.script, buf, r.Peak)
			}
		}
	}
	// What is asked is whether they stand in the script, not whether they are done.
	j = jobOf(strings.Repeat("12345678\n", 50), "sed", "/q/x")
	j.Lim = lim(1, 8)
	if r := run(t, j); r.Peak != 17 {
		t.Errorf("%d bytes were held", r.Peak)
	}
}

// P18.7: the steps of a job are no more than reads, writes and what inputs take.
func TestSteps(t *testing.T) {
	for _, c := range []struct {
		args  string
		steps int
	}{
		{"sed d", 3},              // two Reads of four bytes and of one, and one that finds the end
		{"sed p", 3 + 4},          // each line is told by one Write
		{"sed -n p;p", 3 + 4},     //
		{"sed z", 1},              // that is said
		{"sed -f cut", 6 + 3 + 1}, // a FILE is opened, read (4, 4, 3 and none), and closed
		{"sed d e", 3},
		{"sed d e e", 6},
		{"sed d x", 2},
		{"sed d x -", 2 + 3},
		{"sed 1q", 1 + 1},
		{"sed a\\\none", 3 + 4},
	} {
		r := run(t, job("ab\nb\n", c.args))
		if r.Steps != c.steps {
			t.Errorf("%s: %d steps, not %d", c.args, r.Steps, c.steps)
		}
	}
}
