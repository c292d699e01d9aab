package sed_test

import (
	"strings"
	"testing"

	"toolchest/api"
)

const (
	noX       = "sed: x: no such file\n"
	noY       = "sed: y: no such file\n"
	isDir     = "sed: d: is a directory\n"
	longK     = "sed: k: line too long\n"
	longL     = "sed: l: line too long\n"
	long      = "sed: -: line too long\n"
	inWrong   = "sed: -: input/output error\n"
	badScript = "sed: bad script\n"
	badRegex  = "sed: bad regular expression\n"
	noRoom    = "sed: line too long\n"
	tooMany   = "sed: too many\n"
)

// P18.4: inputs that fail, ahead of others, between and behind them. Lines are numbered on, and the last line is the one behind which no input has a byte.
func TestInputsThatFail(t *testing.T) {
	for _, c := range []struct{ args, out, errs string }{
		{"sed = x", "", noX},
		{"sed = d", "", isDir},
		{"sed = l", "", longL},
		{"sed = k", "1\na\n", longK},
		{"sed = f/x", "", "sed: f/x: not a directory\n"},
		{"sed = ", "", "sed: no such file\n"},
		{"sed = x -", "1\na\n2\nz\n", noX},
		{"sed = - x", "1\na\n2\nz\n", noX},
		{"sed = x - d", "1\na\n2\nz\n", noX + isDir},
		{"sed = k -", "1\na\n2\na\n3\nz\n", longK},
		{"sed = l k - x y", "1\na\n2\na\n3\nz\n", longL + longK + noX + noY},
		{"sed -n p x d k l y f", "a\na 1\nb 2\nab 3\n", noX + isDir + longK + longL + noY},
		{"sed -n $p x", "", noX},
		{"sed -n $p f x", "ab 3\n", noX},
		{"sed -n $p f d e x", "ab 3\n", isDir + noX},
		{"sed -n $p x f e", "ab 3\n", noX},
		{"sed -n $= f e e x d - e", "5\n", noX + isDir},
		{"sed -n $= f x h d", "7\n", noX + isDir},
		// A line behind which there is a byte is not the last one, though that is of a line that is too long.
		{"sed -n $p k", "", longK},
		{"sed -n $p f l", "", longL},
		{"sed -n $p f l e x", "", longL + noX},
		{"sed -n $p l f", "ab 3\n", longL},
		{"sed -n $p f l h", "b\n", longL},
		{"sed $d f k", "a 1\nb 2\nab 3\na\n", longK},
		{"sed 1,/z/d k -", "", longK},
		{"sed 2,3d k f", "a\nab 3\n", longK},
		{"sed d x y", "", noX + noY},
		// The next line may be of another input: n, N and q.
		{"sed -n n;p f x h", "b 2\nx\n\n", noX},
		{"sed N;s/\\n/-/ f d h", "a 1-b 2\nab 3-x\nB-\n", isDir},
		{"sed N;s/\\n/-/ - x f", "a-z\na 1-b 2\n", noX},
		{"sed q x - y", "a\n", noX},
		{"sed 2q - x y", "a\nz\n", noX + noY},
		{"sed 3q f x h y", "a 1\nb 2\nab 3\n", noX},
		{"sed 2q f x h y", "a 1\nb 2\n", ""},
		// Where a byte was seen, and no line comes of it: what was told of the pattern space is not told again.
		{"sed n k", "a\n", longK},
		{"sed $!n f l", "a 1\nb 2\nab 3\n", longL},
		{"sed n;d - k", "a\na\n", longK},
		{"sed N k", "", longK},
		{"sed $!N - k x", "a\nz\n", longK + noX},
		{"sed -n n;p k", "", longK},
		{"sed n k -", "a\na\nz\n", longK},
		{"sed N k -", "a\na\n", longK},
		{"sed n l", "", longL},
	} {
		for buf := 1; buf < 12; buf++ {
			status := min(len(c.errs), 1)
			j := job("a\nz\n", c.args)
			j.Lim.Buf = buf
			comes(t, j, c.out, c.errs, status)
			j.Faults = faults(strings.Repeat("2i1", 40))
			comes(t, j, c.out, c.errs, status)
		}
	}
}

// A line of Line bytes, and a longer one: what stands behind it is not told.
func TestLongLines(t *testing.T) {
	for _, c := range []struct{ in, script, out, errs string }{
		{"12345678\n", "", "12345678\n", ""},
		{"12345678", "", "12345678\n", ""},
		{"123456789\n", "", "", long},
		{"123456789", "", "", long},
		{"1\n123456789\n1\n", "", "1\n", long},
		{"1\n123456789", "=", "1\n1\n", long},
		{"1\n123456789\n1\n", "$d", "1\n", long},
		{"1\n123456789\n1\n", "1d", "", long},
		{"1\n123456789\n1\n", "q", "1\n", ""},
		{"1\n2\n123456789\n1\n", "2q", "1\n2\n", ""},
		{"1\n12345678\n\n", "$d", "1\n12345678\n", ""},
		{"1\n12345678\n", "N;s/\\n//", "112345678\n", ""}, // spaces may have more
		{"12345678\n", "s/.*/&&/", "1234567812345678\n", ""},
		{"1\n123456789\n", "a\\\none", "1\none\n", long},
		{"1\n123456789\n", "a\\\none\nn", "1\none\n", long},
		{"1\n123456789\n", "a\\\none\nN", "one\n", long},
		{"1\n123456789\n", "h;n;G", "1\n", long},
	} {
		anyhow(t, jobOf(c.in, "sed", c.script), c.out, c.errs, min(len(c.errs), 1))
		anyhow(t, jobOf(c.in, "sed", c.script, "e", "-", "e"), c.out, c.errs, min(len(c.errs), 1))
	}
}

// Buf is 4: each Read of `a\nb\nc\na\n` brings two lines, and a third one finds the end. Behind a Read's last line the next one is done, ahead of the commands.
func TestFaults(t *testing.T) {
	const in = "a\nb\nc\na\n"
	const full = "sed: standard output: no space left\n"
	const broken = "sed: standard output: broken pipe\n"
	const wrong = "sed: standard output: input/output error\n"
	for _, c := range []struct{ args, signs, out, errs string }{
		// A Read that fails: it is as if the input ended there.
		{"sed =", "e", "", inWrong},
		{"sed =", "ie", "", inWrong},
		{"sed =", "...e", "1\na\n2\nb\n", inWrong}, // the second Read looks whether there is a line behind the second one
		{"sed p", "...e", "a\na\nb\nb\n", inWrong},
		{"sed -n $p", ".e", "b\n", inWrong},
		{"sed -n $p", ".ie", "b\n", inWrong},
		{"sed -n $p", "..e", "a\n", inWrong},
		{"sed -n $=", ".e", "2\n", inWrong},
		{"sed -n $p", "3e", "", inWrong}, // behind `a` there was a byte
		{"sed -n $p", "3.e", "", inWrong},
		{"sed -n $p - h", ".e", "b\n", inWrong},
		{"sed -n $p h -", "...e", "b\n", inWrong},
		{"sed $!d - f", ".e", "ab 3\n", inWrong},
		{"sed N;N;N;d", ".e", "", inWrong},
		{"sed -n n;$p", ".e", "b\n", inWrong},
		{"sed -n $!N;P", "...e", "a\nc\n", inWrong},
		{"sed q", ".e", "", wrong},
		{"sed 2q", "..e", "a\nb\n", inWrong},
		// A Write that fails: that is said, and it ends.
		{"sed p", ".s", "", full},
		{"sed p", ".p", "", broken},
		{"sed p", ".1s", "a", full},
		{"sed p", "..p", "a\n", broken},
		{"sed p", ".i1i1e", "a\n", wrong},
		{"sed -n p", ".s", "", full},
		{"sed =", ".s", "", full},
		{"sed =", "..s", "1\n", full},
		{"sed P", ".1s", "a", full},
		{"sed i\\\none", ".2s", "on", full},
		{"sed c\\\none", ".2s", "on", full},
		{"sed a\\\none", ".2s", "a\n", full},
		{"sed a\\\none", "..2s", "a\non", full},
		{"sed n", ".s", "", full},
		{"sed -e a\\ -e one -e n", "..s", "a\n", full},
		{"sed -e a\\ -e one -e N", ".s", "", full},
		{"sed s/a/x/p", ".s", "", full},
		{"sed q", ".s", "", full},
		{"sed -n N;P;D", "..s", "", full},
		{"sed -n N;P;D", "...s", "a\n", full},
		{"sed p - x", ".s", "", full},
		{"sed :x;p;bx", "...s", "a\na\n", full},
		{"sed -e a\\ -e one -e N -e D", ".3s", "one", full},
		// What can't be said.
		{"sed p", "es", "", ""},
		{"sed p", ".ss", "", ""},
		{"sed p", ".pp", "", ""},
		{"sed p x", "s", "", ""},
		{"sed p x", "3s", "", "sed"},
		{"sed z", "s", "", ""},
		{"sed", "2p", "", "se"},
		{"sed $!d;G;G;s/.*/&&/;x;:x;bx", "...s", "", ""},
		// What befalls a Write alone does not befall a Read.
		{"sed -n $p", "sps", "a\n", ""},
		{"sed -n $=", "sps", "4\n", ""},
	} {
		status := 1
		if c.errs == "" && c.out != "" {
			status = 0
		}
		comes(t, faulty(in, c.args, c.signs), c.out, c.errs, status)
	}
}

func TestDescriptors(t *testing.T) {
	const in = "a\nb\n"
	const noOut = "sed: standard output: bad descriptor\n"
	for _, c := range []struct{ args, errs string }{
		{"sed p", noOut}, {"sed -n p", noOut}, {"sed =", noOut}, {"sed -n $!d;P", noOut}, {"sed i\\\n", noOut}, {"sed a\\\n", noOut}, {"sed c\\\n", noOut}, {"sed -n n;p", noOut}, {"sed n", noOut}, {"sed q", noOut}, {"sed -n a\\\n", noOut}, {"sed s/a/b/p", noOut},
		{"sed d", ""}, {"sed -n s/a/b/", ""}, {"sed -n $!N;q", ""}, {"sed N;N", ""},
		{"sed p x", noX}, {"sed z", badScript},
	} {
		r := newRig(t, job(in, c.args))
		r.put(r.in, 0) // nothing to tell it to
		r.ends("", c.errs, min(len(c.errs), 1))
	}
	r := newRig(t, job(in, "sed p"))
	r.put(0)
	r.ends("", "sed: -: bad descriptor\n", 1)
	r = newRig(t, job(in, "sed -n $= - f"))
	r.put(r.out)
	r.ends("3\n", "sed: -: invalid\n", 1)
	r = newRig(t, job(in, "sed -f - f"))
	r.put(0)
	r.ends("", "sed: -: bad descriptor\n", 1)
	for _, args := range []string{"sed d x", "sed -f x", "sed z", "sed", "sed :x;bx"} {
		r = newRig(t, job(in, args))
		r.put(r.in, r.out, 0)
		r.ends("", "", 1)
	}
	// All descriptors are taken; all but one.
	for _, c := range []struct {
		args, out, errs string
		taken           int
	}{
		{"sed = f", "", "sed: f: too many\n", api.MaxFds},
		{"sed = f -", "1\na\n2\nb\n", "sed: f: too many\n", api.MaxFds},
		{"sed -n $= - f", "2\n", "sed: f: too many\n", api.MaxFds},
		{"sed -f cut -", "", "sed: cut: too many\n", api.MaxFds},
		{"sed -n $= f e h - h f", "16\n", "", api.MaxFds - 1},
		{"sed -f cut -f cut f f", "b 2\nab 3\na 1\nb 2\naB 3\n", "", api.MaxFds - 1},
	} {
		r = newRig(t, job(in, c.args))
		for fd := 3; fd < c.taken; fd++ {
			r.p.Table().Put(fd, r.in)
		}
		r.ends(c.out, c.errs, min(len(c.errs), 1))
	}
}

// Each input is closed when it has no byte any more, each FILE when it was read.
func TestManyInputs(t *testing.T) {
	j := job("", "sed -n $="+strings.Repeat(" f", 40))
	comes(t, j, "120\n", "", 0)
	j = job("", "sed -n $="+strings.Repeat(" f k h e", 20))
	comes(t, j, "160\n", strings.Repeat(longK, 20), 1)
	j = job("", "sed"+strings.Repeat(" -f cut", 2)+strings.Repeat(" -f none", 40)+strings.Repeat(" e", 40)+" h"+strings.Repeat(" e", 40))
	comes(t, j, "B\n\nB\n", "", 0)
}

// Where `-` stands twice, it does not hang on how transfers are cut what is told: the second one says nothing.
func TestTwiceStandardIn(t *testing.T) {
	tells(t, "a\nb\n", "a\nb\n", "sed", "", "-", "-", "-")
	tells(t, "a\nb\n", "2\n", "sed", "-n", "$=", "-", "e", "-")
	anyhow(t, job("a\n123456789\nb\n", "sed p - -"), "a\na\n", long, 1)
	anyhow(t, job("a\n123456789\nb\n", "sed -n $= - h -"), "5\n", long, 1)
	comes(t, faulty("a\nb\nc\n", "sed -n $= - - h", ".e"), "6\n", inWrong, 1)
}
