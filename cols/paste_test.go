package cols_test

import (
	"strings"
	"testing"
)

// P9.3

const abc = "a\nb\nc\n"

// Without -s.
func TestPaste(t *testing.T) {
	for _, c := range []struct{ in, args, out string }{
		{abc, "paste", "a\nb\nc\n"}, // one input
		{abc, "paste -", "a\nb\nc\n"},
		{"a\nb", "paste", "a\nb\n"},
		{"", "paste", ""},
		{"\n", "paste", "\n"},
		{"\n\na", "paste", "\n\na\n"},
		{abc, "paste f", "one\ntwo\n"},
		{abc, "paste e", ""},
		{abc, "paste - f", "a\tone\nb\ttwo\nc\t\n"},
		{abc, "paste f -", "one\ta\ntwo\tb\n\tc\n"},
		{"a\n", "paste - f", "a\tone\n\ttwo\n"},
		{"a", "paste f - f", "one\ta\tone\ntwo\t\ttwo\n"},
		{"", "paste - f -", "\tone\t\n\ttwo\t\n"},
		{"", "paste f e", "one\t\ntwo\t\n"},
		{"", "paste e f", "\tone\n\ttwo\n"},
		{"", "paste e e f", "\t\tone\n\t\ttwo\n"},
		{"", "paste e e e", ""},
		{"", "paste e - e", ""},
		{"\n", "paste e - e", "\t\t\n"},
		{"\n\n", "paste e - f", "\t\tone\n\t\ttwo\n"},
		{abc, "paste f d/g - h", "one\tgg\ta\t1:2:3\ntwo\t\tb\t4\n\t\tc\t:5:\n\t\t\t\n"},
		{"q\n", "paste f f", "one\tone\ntwo\ttwo\n"}, // a file that is two inputs
		{"a\tb\n", "paste - f", "a\tb\tone\n\ttwo\n"},
		{"\x00\xff\n", "paste - d/g", "\x00\xff\tgg\n"},
	} {
		comesAnyhow(t, c.in, c.out, strings.Fields(c.args)...)
	}
}

// All inputs that are the descriptor 0 are one, of which each takes the next line.
func TestPasteOneInputTwice(t *testing.T) {
	for _, c := range []struct{ in, args, out string }{
		{abc, "paste - -", "a\tb\nc\t\n"},
		{abc, "paste - - -", "a\tb\tc\n"},
		{abc, "paste - - - -", "a\tb\tc\t\n"},
		{"a\nb\nc\nd\n", "paste - -", "a\tb\nc\td\n"},
		{"a\nb\nc\nd", "paste - - -", "a\tb\tc\nd\t\t\n"},
		{"", "paste - -", ""},
		{"a", "paste - -", "a\t\n"},
		{"\n", "paste - -", "\t\n"},
		{"\n\n\n", "paste - -", "\t\n\t\n"},
		{"a\n\nb\n", "paste - -", "a\t\nb\t\n"},
		{abc, "paste - f -", "a\tone\tb\nc\ttwo\t\n"},
		{abc, "paste f - - e", "one\ta\tb\t\ntwo\tc\t\t\n"},
		{"a\nb\nc\nd\ne\n", "paste - d/g - -", "a\tgg\tb\tc\nd\t\te\t\n"},
		{"long line\nanother long line\n", "paste - -", "long line\tanother long line\n"},
	} {
		comesAnyhow(t, c.in, c.out, strings.Fields(c.args)...)
	}
}

// With -s.
func TestPasteEach(t *testing.T) {
	for _, c := range []struct{ in, args, out string }{
		{abc, "paste -s", "a\tb\tc\n"},
		{abc, "paste -s -", "a\tb\tc\n"},
		{"a\nb", "paste -s", "a\tb\n"},
		{"a\n", "paste -s", "a\n"},
		{"a", "paste -s", "a\n"},
		{"", "paste -s", "\n"}, // an input without lines
		{"\n", "paste -s", "\n"},
		{"\n\n", "paste -s", "\t\n"},
		{"a\n\n\nb\n", "paste -s", "a\t\t\tb\n"},
		{abc, "paste -s f", "one\ttwo\n"},
		{abc, "paste -s e", "\n"},
		{abc, "paste -s e f e", "\none\ttwo\n\n"},
		{abc, "paste -s f - d/g", "one\ttwo\na\tb\tc\ngg\n"},
		{abc, "paste -s f f", "one\ttwo\none\ttwo\n"},
		{abc, "paste -s - -", "a\tb\tc\n\n"}, // no line is left
		{abc, "paste -s - f -", "a\tb\tc\none\ttwo\n\n"},
		{abc, "paste -ss", "a\tb\tc\n"},
	} {
		comesAnyhow(t, c.in, c.out, strings.Fields(c.args)...)
	}
}

// Lists of signs: what they part five lines by, and five inputs.
func TestPasteSigns(t *testing.T) {
	for _, c := range []struct{ list, out string }{
		{",", "1,2,3,4,5"},
		{",-", "1,2-3,4-5"},
		{",-;", "1,2-3;4,5"},
		{"abcd", "1a2b3c4d5"},
		{"abcdefgh", "1a2b3c4d5"},
		{" ", "1 2 3 4 5"},
		{`\n`, "1\n2\n3\n4\n5"},
		{`\t`, "1\t2\t3\t4\t5"},
		{`\0`, "12345"},
		{`\\`, `1\2\3\4\5`},
		{`\`, `1\2\3\4\5`}, // a backslash at its end
		{`,\`, `1,2\3,4\5`},
		{`\\\`, `1\2\3\4\5`},
		{`,\\`, `1,2\3,4\5`},
		{`\,`, "1,2,3,4,5"}, // a backslash and another byte
		{`\x\y`, "1x2y3x4y5"},
		{`\N`, "1N2N3N4N5"},
		{`\1`, "112131415"},
		{`\ `, "1 2 3 4 5"},
		{`\r`, "1r2r3r4r5"},
		{`\00`, "1203405"},
		{`n\nt\t`, "1n2\n3t4\t5"},
		{`\0,`, "12,34,5"},
		{`,\0`, "1,23,45"},
		{`\0\0\n`, "123\n45"},
		{"\n", "1\n2\n3\n4\n5"},
		{"\\\n", "1\n2\n3\n4\n5"},
		{"\t", "1\t2\t3\t4\t5"},
		{"\x00", "1\x002\x003\x004\x005"},
		{"\xff\xfe", "1\xff2\xfe3\xff4\xfe5"},
		{"\\\xff", "1\xff2\xff3\xff4\xff5"},
		{"\u00e4", "1\xc32\xa43\xc34\xa45"}, // letters are bytes
		{"0", "102030405"},
		{"-", "1-2-3-4-5"},
		{"-s", "1-2s3-4s5"},
		{"--", "1-2-3-4-5"},
	} {
		in := "1\n2\n3\n4\n5\n"
		comesAnyhow(t, in, c.out+"\n", "paste", "-s", "-d", c.list)
		comesAnyhow(t, in, c.out+"\n", "paste", "-sd"+c.list, "-")
		comesAnyhow(t, in, c.out+"\n", "paste", "-d", c.list, "-", "-", "-", "-", "-")
		// Each input, and each line, begins with the first sign.
		comesAnyhow(t, in+in, c.out+"\n"+c.out+"\n", "paste", "-d"+c.list, "-", "-", "-", "-", "-")
		first := c.out[1:strings.Index(c.out, "2")]
		comesAnyhow(t, "1\n2\n3", "1"+first+"2\n3"+first+"\n", "paste", "-d", c.list, "--", "-", "-")
	}
}

func TestPasteEachBeginsWithTheFirstSign(t *testing.T) {
	comesAnyhow(t, abc, "a,b-c\none,two\n1:2:3,4-:5:;\n", "paste", "-s", "-d", ",-;", "-", "f", "h")
	comesAnyhow(t, abc, "a,one\nb,two\nc,\n", "paste", "-d", ",-;", "-", "f")
}

// Signs stand also behind inputs that have no line any more, and ahead of those.
func TestPasteSignsOfInputsThatHaveEnded(t *testing.T) {
	comesAnyhow(t, "a\n", ",-;a\n", "paste", "-d", ",-;", "e", "e", "e", "-")
	comesAnyhow(t, "a\n", "a,-;\n", "paste", "-d", ",-;", "-", "e", "e", "e")
	comesAnyhow(t, "\n", ",-;\n", "paste", "-d", ",-;", "e", "-", "e", "e")
	comesAnyhow(t, "a\nb\n", "a\nb\n", "paste", "-d", `\0`, "-", "e")
	comesAnyhow(t, "\n\n", "\n\n", "paste", "-d", `\0`, "e", "-", "e")
}

func TestPasteOptions(t *testing.T) {
	comesAnyhow(t, abc, "a-b-c\n", "paste", "-d", ",", "-s", "-d", "-")
	comesAnyhow(t, abc, "a-b-c\n", "paste", "-d", "", "-d-", "-s") // of several the last one
	comesAnyhow(t, abc, "a,b,c\n", "paste", "-sd", ",", "--")
	comesAnyhow(t, abc, "a-b-c\n", "paste", "-sd", "--", "-")
	comes(t, job("", "paste f -s"), "one\t\ntwo\t\n", "paste: -s: no such file\n", 1)
	comes(t, job("", "paste -- -d f"), "\tone\n\ttwo\n", "paste: -d: no such file\n", 1)
	for _, args := range []string{"paste -x", "paste -d", "paste -sd", "paste -sx f", "paste -S", "paste -d, -n", "paste -1", "paste --s", "paste -s -\xff"} {
		refuses(t, strings.Fields(args)...)
	}
	refuses(t, "paste", "-d", "")
	refuses(t, "paste", "-d", "", "-s", "f")
	refuses(t, "paste", "-d,", "-d", "", "f", "-")
}

// Inputs that can't be opened, or read, or whose lines are too long: of such a one it is as if it ended there.
func TestPasteInputsThatFail(t *testing.T) {
	const noFile, noPath, dir, first, second = "paste: x: no such file\n", "paste: f/x: not a directory\n", "paste: d: is a directory\n", "paste: l: line too long\n", "paste: k: line too long\n"
	for _, c := range []struct{ args, out, errs string }{
		{"paste x", "", noFile},
		{"paste x x", "", noFile + noFile},
		{"paste x f", "\tone\n\ttwo\n", noFile},
		{"paste f x", "one\t\ntwo\t\n", noFile},
		{"paste - x f", "a\t\tone\nb\t\ttwo\nc\t\t\n", noFile},
		{"paste x - - f/x", "\ta\tb\t\n\tc\t\t\n", noFile + noPath},
		{"paste d", "", dir},
		{"paste d f", "\tone\n\ttwo\n", dir},
		{"paste f d", "one\t\ntwo\t\n", dir},
		{"paste d d f", "\t\tone\n\t\ttwo\n", dir + dir},
		{"paste f x d", "one\t\t\ntwo\t\t\n", noFile + dir},
		{"paste d x f", "\t\tone\n\t\ttwo\n", noFile + dir}, // all are opened first
		{"paste l", "", first},
		{"paste k", "ab\n", second},
		{"paste l f", "\tone\n\ttwo\n", first},
		{"paste k f", "ab\tone\n\ttwo\n", second},
		{"paste f k -", "one\tab\ta\ntwo\t\tb\n\t\tc\n", second},
		{"paste -s x", "", noFile},
		{"paste -s d", "", dir},
		{"paste -s l", "", first},
		{"paste -s k", "ab\n", second}, // behind its first line
		{"paste -s x f", "one\ttwo\n", noFile},
		{"paste -s f x d - l", "one\ttwo\na\tb\tc\n", noFile + dir + first},
		{"paste -s d k e f/x", "ab\n\n", dir + second + noPath},
		{"paste -s k k", "ab\nab\n", second + second},
	} {
		for buf := 1; buf < 15; buf++ {
			j := job(abc, c.args)
			j.Lim.Buf = buf
			comes(t, j, c.out, c.errs, 1)
			j.Faults = faults(strings.Repeat("2i1", 20))
			comes(t, j, c.out, c.errs, 1)
		}
	}
	comes(t, jobOf(abc, "paste", "", "f"), "\tone\n\ttwo\n", "paste: no such file\n", 1)
}

// A line that is too long in what is several inputs is the end of all of them, and is said once.
func TestPasteLongLines(t *testing.T) {
	for _, c := range []struct {
		in, args, out, errs string
		status              int
	}{
		{"12345678\n", "paste - -", "12345678\t\n", "", 0},
		{"12345678\n12345678\n12345678", "paste - -", "12345678\t12345678\n12345678\t\n", "", 0},
		{"123456789\na\n", "paste - -", "", "paste: -: line too long\n", 1},
		{"a\n123456789\nb\n", "paste - - -", "a\t\t\n", "paste: -: line too long\n", 1},
		{"a\nb\n123456789\nc\n", "paste - - f", "a\tb\tone\n\t\ttwo\n", "paste: -: line too long\n", 1},
		{"a\nb\n123456789\nc\n", "paste -s - -", "a\tb\n\n", "paste: -: line too long\n", 1},
		{"12345678\n12345678\n", "paste -s", "12345678\t12345678\n", "", 0},
	} {
		for buf := 1; buf < 30; buf++ {
			j := job(c.in, c.args)
			j.Lim.Buf = buf
			comes(t, j, c.out, c.errs, c.status)
		}
	}
}

// Thirteen files can be open at once, however often the descriptor 0 is an input.
func TestPasteManyFiles(t *testing.T) {
	const tooMany = "paste: f: too many\n"
	row := func(word string, files, others int) string {
		return strings.Repeat(word+"\t", files) + strings.Repeat("\t", others-1) + "\n"
	}
	for _, c := range []struct{ files, others int }{{13, 1}, {13, 2}, {13, 30}} {
		args := "paste -d \\t" + strings.Repeat(" f", c.files+c.others)
		comes(t, job("", args), row("one", c.files, c.others)+row("two", c.files, c.others), strings.Repeat(tooMany, c.others), 1)
	}
	comesAnyhow(t, "", strings.TrimSuffix(row("one", 13, 1), "\t\n")+"\n"+strings.TrimSuffix(row("two", 13, 1), "\t\n")+"\n", strings.Fields("paste"+strings.Repeat(" f", 13))...)
	comes(t, job("a\nb\nc", "paste - - x"+strings.Repeat(" f", 13)+" - f -"),
		"a\tb\t\t"+strings.Repeat("one\t", 13)+"c\t\t\n"+"\t\t\t"+strings.Repeat("two\t", 13)+"\t\t\n", "paste: x: no such file\n"+tooMany, 1)
	comesAnyhow(t, "", strings.Repeat("one\ttwo\n", 40), strings.Fields("paste -s"+strings.Repeat(" f", 40))...) // each is closed behind its turn
	comes(t, job("", "paste -s"+strings.Repeat(" f d", 20)), strings.Repeat("one\ttwo\n", 20), strings.Repeat("paste: d: is a directory\n", 20), 1)
}

// Buf is 4: each Read has a sign, and each Write.
func TestPasteFailures(t *testing.T) {
	for _, c := range []struct {
		in, args, signs, out, errs string
		status                     int
	}{
		{abc, "paste", "e", "", "paste: -: input/output error\n", 1},
		{abc, "paste", "...e", "a\nb\n", "paste: -: input/output error\n", 1},
		{abc, "paste - -", "e", "", "paste: -: input/output error\n", 1},
		{abc, "paste - -", "1e", "", "paste: -: input/output error\n", 1},
		{abc, "paste - -", "2.e", "a\t\n", "paste: -: input/output error\n", 1}, // behind its first line
		{abc, "paste - - -", "2.e", "a\t\t\n", "paste: -: input/output error\n", 1},
		{abc, "paste - f", "e", "\tone\n\ttwo\n", "paste: -: input/output error\n", 1},
		{abc, "paste f -", "e", "\ta\n\tb\n\tc\n", "paste: f: input/output error\n", 1},
		{abc, "paste f -", "..e", "one\t\ntwo\t\n", "paste: -: input/output error\n", 1},
		{abc, "paste f d/g -", "ee", "\tgg\ta\n\t\tb\n\t\tc\n", "", 1}, // what can't be said
		{abc, "paste", ".e", "", "paste: standard output: input/output error\n", 1},
		{abc, "paste", ".s", "", "paste: standard output: no space left\n", 1},
		{abc, "paste - f x", "s", "a\tone\t\nb\ttwo\t\nc\t\t\n", "", 1},
		{abc, "paste - f", ".1p", "a", "paste: standard output: broken pipe\n", 1},
		{abc, "paste - f", "...2s", "a\ton", "paste: standard output: no space left\n", 1},
		{abc, "paste -s", "e", "", "paste: -: input/output error\n", 1}, // ahead of its first line: no line feed
		{abc, "paste -s", "1e", "", "paste: -: input/output error\n", 1},
		{abc, "paste -s", "2.e", "a\n", "paste: -: input/output error\n", 1}, // behind it
		{abc, "paste -s - f", "2.e", "a\none\ttwo\n", "paste: -: input/output error\n", 1},
		{abc, "paste -s f -", "e", "a\tb\tc\n", "paste: f: input/output error\n", 1},
		{abc, "paste -s - f", ".s", "", "paste: standard output: no space left\n", 1},
		{abc, "paste -s - f", "..1p", "a\t", "paste: standard output: broken pipe\n", 1},
		{"a\n", "paste -s - f", "...e", "a", "paste: standard output: input/output error\n", 1}, // the line feed
		{"", "paste -s - f", ".e", "", "paste: standard output: input/output error\n", 1},
		{abc, "paste -s", "s..s", "a\tb\tc\n", "", 0}, // a Read does not mind it
		{abc, "paste -x", "e", "", "", 1},
	} {
		comes(t, faulty(c.in, c.args, c.signs), c.out, c.errs, c.status)
	}
}

func TestPasteDescriptors(t *testing.T) {
	for _, c := range []struct{ args, out string }{
		{"paste", ""},
		{"paste - f -", "\tone\t\n\ttwo\t\n"},
		{"paste -s", ""},
		{"paste -s - f", "one\ttwo\n"},
	} {
		r := newRig(t, job(abc, c.args))
		r.put(r.out)
		r.ends(c.out, "paste: -: invalid\n", 1) // said once
	}
	r := newRig(t, job(abc, "paste - -"))
	r.put(0)
	r.ends("", "paste: -: bad descriptor\n", 1)
	r = newRig(t, job(abc, "paste -"))
	r.put(r.in, 0)
	r.ends("", "paste: standard output: bad descriptor\n", 1)
	r = newRig(t, job(abc, "paste x -"))
	r.put(r.in, r.out, 0)
	r.ends("\ta\n\tb\n\tc\n", "", 1)
}

// What is held is what readers hold: of each input a line, and what was read ahead.
func TestPasteHolds(t *testing.T) {
	line := "12345678\n"
	for buf := 1; buf < 40; buf++ {
		j := job(strings.Repeat(line, 12), "")
		j.Lim.Buf = buf
		j.Args = strings.Fields("paste - - - -")
		comes(t, j, strings.Repeat("12345678\t12345678\t12345678\t12345678\n", 3), "", 0)
		j.Args = strings.Fields("paste -s -d ,")
		comes(t, j, strings.Repeat("12345678,", 11)+"12345678\n", "", 0)
		j.Args = strings.Fields("paste - g - h")
		j.Nodes = append(nodes()[:0], file("/g", strings.Repeat(line, 6)), file("/h", strings.Repeat(line, 6)))
		comes(t, j, strings.Repeat("12345678\t12345678\t12345678\t12345678\n", 6), "", 0)
	}
	j := job(strings.Repeat(line, 12), "paste - - - - f")
	j.Lim.Buf = 10
	if r := run(t, j); r.Peak > 8+10+7 {
		t.Errorf("%d bytes were held", r.Peak)
	}
}
