package trans_test

import (
	"slices"
	"strings"
	"testing"

	"toolchest/api"
)

// P10.2

func TestTranslate(t *testing.T) {
	for _, c := range []struct{ in, one, two, out string }{
		{"abcd", "a-c", "A-C", "ABCd"},
		{"hello", "a-z", "A-Z", "HELLO"},
		{"Hello 1", "[:lower:]", "[:upper:]", "HELLO 1"},
		{"abc", "abc", "bca", "bca"}, // each byte just once
		{"aab", "ab", "ba", "bba"},
		{"abc", "a", "x", "xbc"},
		{"abc", "x", "y", "abc"},
		{"", "a", "b", ""},
		{"a\nb\n", `\n`, ",", "a,b,"},
		{"a b", " ", `\n`, "a\nb"},
		{"abc", "abc", "x", "xxx"}, // the second one is shorter: its last byte
		{"abcd", "abcd", "xy", "xyyy"},
		{"abc", "ab", "xyz", "xyc"}, // longer
		{"zzz", "a", "xyz", "zzz"},
		{"abc", "aa", "xy", "ybc"}, // the last place counts
		{"abc", "aba", "xyz", "zyc"},
		{"abc", "a-ca", "w-z", "zxy"},
		{"a", "a-ca-ca-c", "123456789", "7"},
		{"ab", "[a*3]b", "1234", "34"},
		{"ab", "[a*70000]b", "[x*65535]yz", "yz"},
		{"ab", "aab", "x", "xx"},
		{"a", "aaa", "xy", "y"},
		{"abc", "", "", "abc"}, // nothing is translated
		{"abc", "", "x", "abc"},
		{"abc", "", "[x*]", "abc"},
		{"abc", "a-c", "[x*]", "xxx"}, // what fills up
		{"abc", "a-c", "[x*0]", "xxx"},
		{"abc", "a-c", "[x*00]", "xxx"},
		{"abcd", "a-d", "[x*]y", "xxxy"},
		{"abcd", "a-d", "y[x*]", "yxxx"},
		{"abcd", "a-d", "y[x*]z", "yxxz"},
		{"abcd", "a-d", "1234[x*]", "1234"},
		{"abcd", "a-d", "[x*]1234", "1234"}, // it is there no more
		{"abcd", "a-d", "12[x*]34", "1234"},
		{"abcd", "a-d", "123[x*]", "123x"},
		{"abcd", "a-d", "[x*]123", "x123"},
		{"abcd", "a-d", "12[x*]345", "1234"},
		{"abcd", "a-d", "[x*]12345", "1234"},
		{"abcd", "a-d", "12345[x*]", "1234"},
		{"abcd", "a-d", "[x*2]y", "xxyy"},
		{"\x00\xff\x80", `\0\377\200`, "abc", "abc"},
		{"\xff", "\xff", "\xfe", "\xfe"},
		{"a", "a", `\0`, "\x00"},
		{"\u00e4", "\u00e4", "x", "xx"}, // bytes, not signs of other kinds
		{"a-c", "a-c", "x-z", "x-z"},
		{"a-c", `a\-c`, "123", "123"},
		{"[x]", "[x]", "(x)", "(x)"},
		{`a\b`, `\\`, "/", "a/b"},
		{`a\b`, `\`, "/", "a/b"},
		{"-", "-", "+", "+"},
		{"a-", "a", "-", "--"},
	} {
		comesAnyhow(t, c.in, c.out, "--", c.one, c.two)
	}
}

func TestTranslateOthers(t *testing.T) {
	for _, c := range []struct{ in, one, two, out string }{
		{"abc", "b", "x", "xbx"},
		{"a1b2", "[:alpha:]", "-", "a-b-"},
		{"abc", "", "x", "xxx"},
		{"abc", `\0-\377`, "", "abc"}, // there are no others
		{"abc", `\0-\377`, "x", "abc"},
		{"abc", `\0-\377`, "[x*]", "abc"},
		{"abc", "a-c", "x", "abc"},
		{"\x00\x01\x02\x03", `\1`, "xyz", "x\x01yz"}, // in rising order
		{"\x00\x01\x02\xfe\xff", "x", "[1*]2", "11112"},
		{"\x00\x01\x02\xfe\xff", "x", "2[1*]", "21111"},
		{"\x00\x01\x02\xfe\xff", "x", "2[1*]3", "21113"},
		{"\x00\x01\xff", `\1\1`, "[1*]23", "1\x013"},
		{"abc", "aab", "x", "abx"},
		{"b", `\0-\140c-\377`, "xy", "y"},
		{"ab", `\0-\140c-\377`, "xy", "xy"},
	} {
		for _, letter := range []string{"-c", "-C", "-cC", "-cc"} {
			comesAnyhow(t, c.in, c.out, letter, "--", c.one, c.two)
		}
	}
}

func TestDelete(t *testing.T) {
	for _, c := range []struct{ in, one, out, others string }{
		{"a1b2", "[:digit:]", "ab", "12"},
		{"abcabc", "b", "acac", "bb"},
		{"abc", "a-c", "", "abc"},
		{"abc", "", "abc", ""},
		{"abc", "x", "abc", ""},
		{"abc", `\0-\377`, "", "abc"},
		{"", "a", "", ""},
		{"aabb", "aa", "bb", "aa"},
		{"aabb", "[a*5]", "bb", "aa"},
		{"a\nb\n", `\n`, "ab", "\n\n"},
		{"a\x00\xffb", `\0\377`, "ab", "\x00\xff"},
		{"aabb", "c-e", "aabb", ""},
	} {
		comesAnyhow(t, c.in, c.out, "-d", "--", c.one)
		comesAnyhow(t, c.in, c.out, "-dd", "--", c.one)
		comesAnyhow(t, c.in, c.others, "-dc", "--", c.one)
		comesAnyhow(t, c.in, c.others, "-C", "-d", "--", c.one)
		comesAnyhow(t, c.in, c.others, "-cdC", "--", c.one)
	}
}

// Of one operand.
func TestSqueeze(t *testing.T) {
	for _, c := range []struct{ in, one, out, others string }{
		{"aabaa", "a", "aba", "aabaa"},
		{"aabbaa", "a", "abba", "aabaa"},
		{"aabb", "ab", "ab", "aabb"},
		{"abab", "ab", "abab", "abab"},
		{"aabbcc", "", "aabbcc", "abc"},
		{"aabbcc", `\0-\377`, "abc", "aabbcc"},
		{"", "a", "", ""},
		{"a", "a", "a", "a"},
		{"aaaaaaaaaaaaaaaaaaaaa", "a", "a", "aaaaaaaaaaaaaaaaaaaaa"},
		{"aaaaaaaaaaaaaaaaaaaaa", "b", "aaaaaaaaaaaaaaaaaaaaa", "a"},
		{"\x00\x00\xff\xff", `\0\377`, "\x00\xff", "\x00\x00\xff\xff"},
		{"\x00\x00\xff\xff", `a`, "\x00\x00\xff\xff", "\x00\xff"},
		{"a  b\n\n\nc", " \n", "a b\nc", "a  b\n\n\nc"},
		{"aab", "[a*9]", "ab", "aab"},
		{"aabbccdd", "b-c", "aabcdd", "abbccd"},
	} {
		comesAnyhow(t, c.in, c.out, "-s", "--", c.one)
		comesAnyhow(t, c.in, c.out, "-s", "-s", "--", c.one)
		comesAnyhow(t, c.in, c.others, "-sc", "--", c.one)
		comesAnyhow(t, c.in, c.others, "-Cs", "--", c.one)
	}
}

// Squeezed is what bytes become, by the second set, which -c leaves as it is.
func TestTranslateAndSqueeze(t *testing.T) {
	for _, c := range []struct{ in, one, two, out string }{
		{"aabbcc", "ab", "x", "xcc"},
		{"aabbcc", "ab", "xy", "xycc"},
		{"aabb", "a", "b", "b"},
		{"abab", "a", "b", "b"},
		{"aabbcc", "a", "xc", "xbbc"}, // a byte of the second set that nothing becomes
		{"aabb", "a", "a", "abb"},
		{"aabb", "ab", "ba", "ba"},
		{"aacc", "ab", "bc", "bc"},
		{"aabb", "", "", "aabb"},
		{"aabb", "", "a", "abb"},
		{"aabb", "", "[a*]", "aabb"}, // as often as it takes for nothing: not at all
		{"aabb", "a", "[b*]", "b"},
		{"aaxxyy", "a", "y[x*]", "yxxy"}, // there is no x in it
		{"aaxxyy", "a", "[x*]y", "yxxy"},
		{"aabbxx", "ab", "y[x*]", "yx"},
		{"aaxx", "a", "b[x*2]", "bx"}, // no fill
		{"aab", "aa", "xb", "b"},
		{"a  b", " ", `\n`, "a\nb"},
	} {
		comesAnyhow(t, c.in, c.out, "-s", "--", c.one, c.two)
	}
	for _, c := range []struct{ in, one, two, out string }{
		{"ab  c1", "a-z", `[\n*]`, "ab\nc\n"},
		{"aab  c", "a-z", "-", "aab-c"},
		{"aab  c", "a-z", "-a", "abac"}, // the last one of the second set
		{"aabb", `\0-\377`, "", "aabb"},
		{"aabb", `\0-\377`, "a", "abb"},
		{"aabb", `\0-\377`, "[a*]", "aabb"},
		{"aabb", "", "b", "b"},
	} {
		comesAnyhow(t, c.in, c.out, "-cs", "--", c.one, c.two)
		comesAnyhow(t, c.in, c.out, "-s", "-C", "--", c.one, c.two)
	}
}

// Squeezed is what is left, by the second set.
func TestDeleteAndSqueeze(t *testing.T) {
	for _, c := range []struct{ in, one, two, out string }{
		{"aabbcc", "b", "c", "aac"},
		{"abab", "b", "a", "a"}, // they come to stand behind each other
		{"abab", "b", "b", "aa"},
		{"aabb", "a", "a", "bb"},
		{"aabb", "", "", "aabb"},
		{"aabb", "", "ab", "ab"},
		{"aabb", "a", "", "bb"}, // an empty one may be
		{"aabb", "ab", "", ""},
		{"aabbcc", "a", "[b*]", "bcc"},
		{"aabbcc", "a", "c[b*]", "bbc"}, // there is no b in it
		{"aabbcc", "ax", "c[b*]", "bc"},
		{"aabbcc", "", "[b*]", "aabbcc"},
		{"aabbcc", "a", "[x*3]c", "bbc"},
	} {
		comesAnyhow(t, c.in, c.out, "-ds", "--", c.one, c.two)
		comesAnyhow(t, c.in, c.out, "-s", "-d", "--", c.one, c.two)
		comesAnyhow(t, c.in, c.out, "-dsds", "--", c.one, c.two)
	}
	for _, c := range []struct{ in, one, two, out string }{
		{"aabbaacc", "a", "a", "a"},
		{"aabbaacc", "ab", "a", "abba"},
		{"aabbaacc", "ab", "", "aabbaa"},
		{"aabbaacc", `\0-\377`, "[a*]", "aabbaacc"}, // nothing is left out, and nothing is squeezed
		{"aabbaacc", `\0-\377`, "a", "abbacc"},
		{"aabbaacc", "", "a", ""},
		{"aabb", "ab", "[b*]", "aab"},
	} {
		comesAnyhow(t, c.in, c.out, "-cds", "--", c.one, c.two)
		comesAnyhow(t, c.in, c.out, "-sdC", "--", c.one, c.two)
	}
}

// Every set of letters with each number of operands.
func TestOperands(t *testing.T) {
	may := map[string]string{"": "2", "s": "12", "d": "1", "ds": "2"} // how many there may be
	for n := range 16 {
		letters, form := "", ""
		for i, letter := range []string{"c", "C", "d", "s"} {
			if n>>i&1 == 1 {
				letters += letter
			}
		}
		for _, letter := range []string{"d", "s"} {
			if strings.Contains(letters, letter) {
				form += letter
			}
		}
		for count := range 5 {
			operands := []string{"a", "b", "c", "d"}[:count]
			for _, options := range spellings(letters) {
				args := slices.Concat(options, operands)
				if !strings.Contains(may[form], string(rune('0'+count))) {
					refuses(t, args...)
					continue
				}
				j := job("aabb", args...)
				comes(t, j, askedOf(args).changes()("aabb"), "", 0)
			}
		}
	}
}

// spellings are ways to write options of letters: in one group, each alone, the other way round, each twice, with `--` behind.
func spellings(letters string) [][]string {
	if letters == "" {
		return [][]string{{"--"}, {}}
	}
	var alone, turned, twice []string
	for i := range len(letters) {
		one := "-" + letters[i:i+1]
		alone = append(alone, one)
		turned = append([]string{one}, turned...)
		twice = append(twice, one+letters[i:i+1], one)
	}
	return [][]string{{"-" + letters}, {"-" + letters, "--"}, alone, turned, twice}
}

func TestStringsThatMayNotBe(t *testing.T) {
	for _, s := range []string{"[:foo:]", "[::]", "b-a", "[x*08]", "[x*2147483648]", "[x*][y*]", `a-\0`, "ab[:x:]", "[x*0][x*0]"} {
		for _, args := range [][]string{{s, "b"}, {"a", s}, {s, s}, {"", s}, {s, ""}, {"-d", s}, {"-s", s}, {"-s", s, "b"}, {"-s", "a", s}, {"-ds", s, "b"}, {"-ds", "a", s}, {"-c", s, "b"}, {"-c", "a", s}, {"-cd", s}, {"-Cs", s}, {"-C", `\0-\377`, s}} {
			refuses(t, args...)
		}
	}
	for _, s := range []string{"[x*]", "[x*0]", "a[x*]", "[x*000]b"} { // in the first one nothing fills up
		for _, args := range [][]string{{s, "b"}, {s, s}, {"-d", s}, {"-s", s}, {"-s", s, "b"}, {"-ds", s, "b"}, {"-c", s, "b"}, {"-cd", s}, {"-Cs", s}} {
			refuses(t, args...)
		}
	}
}

// Nothing can become of bytes, where the second set has none.
func TestEmptySecondString(t *testing.T) {
	for _, args := range [][]string{{"a", ""}, {"a-c", ""}, {"-s", "a", ""}, {"-c", "a", ""}, {"-c", "", ""}, {"-Cs", "abc", ""}} {
		refuses(t, args...)
	}
	for _, args := range [][]string{{"", ""}, {"-s", "", ""}, {"-c", `\0-\377`, ""}, {"-Cs", `\0-\377`, ""}, {"-ds", "", ""}, {"-cds", `\0-\377`, ""}, {"", "[a*]"}, {"-s", "", "[a*]"}} {
		comesAnyhow(t, "aabb", "aabb", args...)
	}
}

func TestOptionsThatMayNotBe(t *testing.T) {
	for _, args := range [][]string{
		{"-x"}, {"-x", "a", "b"}, {"-sx", "a"}, {"-t", "a", "b"}, {"-D", "a"}, {"-S", "a"}, {"-d", "-x", "a"}, {"-1", "a", "b"}, {"-s-", "a"}, {"--s", "a"}, {"-\xff", "a", "b"}, {"-c:", "a", "b"}, {"-dsx", "a", "b"}, {"--", "-d", "a", "b"},
		{"a", "b", "-s"}, {"a", "-s", "b"}, {"a", "b", "--"}, {"-d", "a", "--"},
	} {
		refuses(t, args...)
	}
}

func TestOptionsAndOperands(t *testing.T) {
	comesAnyhow(t, "a-s-", "yxsx", "--", "-a", "xy")
	comesAnyhow(t, "aabb", "--bb", "a", "-s") // behind an operand nothing is an option
	comesAnyhow(t, "aabb", "--bb", "a", "--")
	comesAnyhow(t, "a-b", "axb", "-", "x")
	comesAnyhow(t, "a-b", "ab", "-d", "-")
	comesAnyhow(t, "a--b", "a-b", "-s", "-")
	comesAnyhow(t, "a-b", "a-b", "-", "-")
	comesAnyhow(t, "sd-", "", "-d", "--", "-ds")
	comesAnyhow(t, "a--b", "a-b", "-s", "--", "--")
	comesAnyhow(t, "aab", "xxb", "--", "a", "x")
}

func TestInputs(t *testing.T) {
	comesAnyhow(t, "", "", "-s", "a")
	comesAnyhow(t, "", "", "-d", "a")
	comesAnyhow(t, "", "", "-c", "a", "b")
	comesAnyhow(t, "x", "x", "a", "b") // files of these names are not read
	comesAnyhow(t, "a", "", "-d", "a")
	for c := range 256 {
		b := string([]byte{byte(c)})
		comes(t, job(b+b+b, "-s", `\0-\377`), b, "", 0)
		comes(t, job(b+b+b, "-d", `\0-\377`), "", "", 0)
		comes(t, job(b+b+b, `\0-\377`, `\1-\377\0`), strings.Repeat(string([]byte{byte(c + 1)}), 3), "", 0)
	}
}

// As many bytes as a buffer has are held, if there are so many, and no more.
func TestHeld(t *testing.T) {
	in := strings.Repeat("aab ", 20)
	for _, args := range [][]string{{"a", "b"}, {"-d", "a"}, {"-d", "ab "}, {"-s", "a"}, {"-cs", "a-z", `[\n*]`}, {"-ds", "b", "a"}} {
		for _, buf := range []int{1, 2, 5, 79, 80, 81, 1000, 1 << 40} {
			j := job(in, args...)
			j.Lim = lim(buf)
			if r := follows(t, j); r.Peak != min(buf, len(in)) {
				t.Errorf("%q, Buf %d: %d bytes were held", args, buf, r.Peak)
			}
		}
	}
}

// Buf is 4: each Read has a sign, and each Write of something.
func TestFailures(t *testing.T) {
	for _, c := range []struct {
		signs, args, out, errs string
		status, used           int
	}{
		{"e", "a x", "", "tr: -: input/output error\n", 1, 1},
		{"..e", "a x", "xbxb", "tr: -: input/output error\n", 1, 3},
		{"2.e", "a x", "xb", "tr: -: input/output error\n", 1, 3},
		{"..ie", "a x", "xbxb", "tr: -: input/output error\n", 1, 4},
		{"......e", "a x", "xbxbxbxbxb", "tr: -: input/output error\n", 1, 7}, // where the end were told
		{".e.", "a x", "", "tr: standard output: input/output error\n", 1, 3},
		{".s.", "a x", "", "tr: standard output: no space left\n", 1, 3},
		{".p.", "a x", "", "tr: standard output: broken pipe\n", 1, 3},
		{".1s.", "a x", "x", "tr: standard output: no space left\n", 1, 4},
		{".1i2p.", "a x", "xbx", "tr: standard output: broken pipe\n", 1, 6},
		{"...s.", "a x", "xbxb", "tr: standard output: no space left\n", 1, 5},
		{"s.s.p.", "a x", "xbxbxbxbxb", "", 0, 6}, // a Read does not mind it
		{"...e", "-d ab", "", "tr: -: input/output error\n", 1, 4},
		{"...s", "-d ab", "", "", 0, 4}, // nothing is written
		{"ee", "a x", "", "", 1, 2},     // nothing is done about what can't be said
		{".s4s", "a x", "", "tr: ", 1, 4},
		{"p", "a", "", "", 1, 1},
		{"2e", "a b c", "", "tr", 1, 2},
	} {
		r := comes(t, faulty("ababababab", c.signs, strings.Fields(c.args)...), c.out, c.errs, c.status)
		if r.Used != c.used {
			t.Errorf("%s, %s: %d faults were used, not %d", c.args, c.signs, r.Used, c.used)
		}
	}
}

// Descriptors that have something else, or nothing.
func TestDescriptors(t *testing.T) {
	r := newRig(t, job("ab", "a", "x"))
	r.put(0)
	r.ends("", "tr: -: bad descriptor\n", 1)
	r = newRig(t, job("ab", "a", "x"))
	r.put(r.out)
	r.ends("", "tr: -: invalid\n", 1)
	r = newRig(t, job("ab", "a", "x"))
	r.put(r.in, 0)
	r.ends("", "tr: standard output: bad descriptor\n", 1)
	r = newRig(t, job("ab", "-d", "ab"))
	r.put(r.in, 0)
	r.ends("", "", 0) // nothing is to be told
	r = newRig(t, job("ab", "a"))
	r.put(0, 0, 0)
	r.ends("", "", 1)
	r = newRig(t, job("ab", "a", "x"))
	r.put(0, 0, r.err)
	r.ends("", "tr: -: bad descriptor\n", 1)
}

// A file that is read, and one that is told to and becomes too great.
func TestOfAFileToAFile(t *testing.T) {
	j := job("no", "a", "b")
	j.Nodes = append(j.Nodes, file("/f", strings.Repeat("ab", 5000)))
	r := newRig(t, j)
	from, _ := r.p.Table().Open("", "/f", api.OpenRead)
	r.p.Table().Dup(from, 0)
	to, _ := r.p.Table().Open("", "/new", api.OpenWrite)
	r.p.Table().Dup(to, 1)
	r.ends("", "tr: standard output: no space left\n", 1)
	n, _ := r.k.Tree().Find("", "/new")
	if b := r.k.Tree().Read(n, 0, 10000); string(b) != strings.Repeat("b", api.MaxData) {
		t.Errorf("%d bytes were told", len(b))
	}
}
