package sed_test

import (
	"strings"
	"testing"

	"toolchest/api"
	"toolchest/sed"
	"toolchest/text"
)

// checks fails, if Check answers something else of scripts, or if a job of one does not say that alone.
func checks(t *testing.T, want api.Errno, scripts ...string) {
	t.Helper()
	for _, s := range scripts {
		for _, quiet := range []bool{false, true} {
			if e := sed.Check(s, quiet); e != want {
				t.Errorf("Check(%q, %v): %d, not %d", s, quiet, e, want)
			}
		}
		if want == api.OK {
			continue
		}
		for _, args := range [][]string{{"sed", "--", s}, {"sed", "-n", "-e", s, "x"}} {
			if r := comes(t, jobOf("a\n", args...), "", "sed: "+text.Word(want)+"\n", 1); r.Steps != 1 || r.Peak != 0 {
				t.Errorf("%q: %d steps, %d bytes were held", args, r.Steps, r.Peak)
			}
		}
	}
}

// P18.1: what stands ahead of a command.

func TestAheadOfCommands(t *testing.T) {
	checks(t, api.OK, "", " ", "\t", "\n", ";", ";;;", " ;\t\n; \n", "p", " p", "\tp", "\np", ";p", " ;\n\t;p", "p;", "p\n", "p ", "p\t;", "p;p", "p\np", "p ; p", "p;;\n; p", "p \n\n p;")
	checks(t, api.ErrScript, "\rp", "\vp", "\fp", ",p", "\x00", "p,p", "p p", "pp", "p\tp", "p\rp", "\xffp", "p.", "z", "e", "F", "I", "k", "l", "L", "o", "Q", "r", "R", "S", "T", "u", "v", "w", "W", "X", "Y", "z", "A", "B", "C", "E", "0", "-", "(", "+1p", "\"p\"", "*")
	edits(t, "a\nb\n", "", "a\nb\n", "")
	edits(t, "a\nb\n", " ;\n\t; p\n;;p ;", "a\na\na\nb\nb\nb\n", "a\na\nb\nb\n")
}

// Every byte that is no letter.
func TestLettersThatAreNone(t *testing.T) {
	for c := range 256 {
		letter := string([]byte{byte(c)})
		if strings.Contains("{}=aiqcbtdDgGhHnNpPsxy:# \t\n;", letter) {
			continue
		}
		checks(t, api.ErrScript, letter, "p;"+letter+"\n", "$"+letter, "{"+letter+"}", "!"+letter)
	}
}

// How many addresses each letter has; of each what is the least that is written of it.
func TestHowManyAddresses(t *testing.T) {
	most := map[string]int{"}": 0, ":x": 0, "#": 0, "#x": 0, "=": 1, "a\\\nt": 1, "i\\\nt": 1, "q": 1}
	for _, c := range []string{"{p}", "b", "t", "bl", "tl", "c\\\nt", "d", "D", "g", "G", "h", "H", "n", "N", "p", "P", "x", "y/a/b/", "s/a/b/"} {
		most[c] = 2
	}
	for c, most := range most {
		ahead, behind := "", "\n:l"
		if c == "}" {
			ahead = "{p;"
		}
		for n, some := range [][]string{{""}, {"1", "$", "/a/", "\\,a,", "//"}, {"1,2", "$,$", "/a/,/b/", "1,\\,a,", "1, \t $", "/a/,3", "$,1", "2,1"}} {
			for _, addresses := range some {
				for _, not := range []string{"", " ", "\t ", "!", " ! ", "!!", "!! ", "!!!\t", "! !", " !\t! "} {
					want := api.OK
					if n > most || most == 0 && strings.Contains(not, "!") {
						want = api.ErrScript
					}
					checks(t, want, ahead+addresses+not+c+behind)
				}
			}
		}
		checks(t, api.ErrScript, ahead+"1,2,3"+c+behind, ahead+"1,"+c+behind, ahead+",1"+c+behind, ahead+"1 ,2"+c+behind, ahead+"1 2"+c+behind, ahead+"1;"+c+"!"+behind, ahead+"1\n"+c+behind, ahead+"1!1"+c+behind, ahead+"1,\n2"+c+behind, ahead+"1,!"+c+behind, ahead+"1!\n"+c+behind, ahead+"!;"+c+behind)
	}
	checks(t, api.ErrScript, "1", "1,", "1,2", "!", "1!", "1 ", "$", "/a/", "p;1", "1!! ", "\\,a,", "{1}", "{1")
}

func TestNumbersOfLines(t *testing.T) {
	checks(t, api.OK, "1p", "01p", "0000000000000000000000001p", "2147483647p", "002147483647p", "1,2147483647p", "2147483647,1p", "12 p")
	checks(t, api.ErrScript, "0p", "00p", "0,1p", "1,0p", "1,00p", "0", "2147483648p", "1,2147483648p", "4294967297p", "9999999999p", "18446744073709551617p", "99999999999999999999999999999p", "-1p", "+1p", "1,+1p", "0x1p", "1,~2p", "1~2p", "1.p", "0!p", "0,/a/p")
	edits(t, "a\nb\nc\n", "002!d", "b\n", "")
	edits(t, "a\nb\n", "2147483647p;1,2147483647s/$/x/", "ax\nbx\n", "")
}

// The byte that ends an expression, and what stands for it.
func TestExpressions(t *testing.T) {
	for _, c := range []struct{ in, script, out string }{
		{"a\nb\n", "/a/", "a\n"},
		{"a/b\nab\n", `/a\/b/`, "a/b\n"},
		{"a/b\nab\n", `\,a/b,`, "a/b\n"},
		{"a,b\na\nb\n", `\,a\,b,`, "a,b\n"},
		{"a\nb\n", `\aba`, "b\n"},
		{"ab\nb\n", `\a\aba`, "ab\n"},
		{"a b\nab\n", `\ a\ b `, "a b\n"},
		{"a;b\n", `\;a\;b;`, "a;b\n"},
		{"a}b\n", `\}a\}b}`, "a}b\n"},
		{"a\xffb\nab\n", "\\\xe4a\xffb\xe4", "a\xffb\n"},
		{"a\xffb\nab\n", "\\\xffa\\\xffb\xff", "a\xffb\n"},
		{"a\x00b\nab\n", "\\\x00a\\\x00b\x00", "a\x00b\n"},
		{"1\n2\n", `\121`, "2\n"},
		{"12\n2\n", `\1\121`, "12\n"},
		// Where the byte means something else behind a backslash, or alone, the backslash is left out all the same.
		{"a\n.\nab\n", `\.^\.$.`, "a\n.\n"},
		{"a\naa\n*\n", `\*^a\*$*`, "a\naa\n"},
		{"(a)\n", `\(\(a)(`, "(a)\n"},
		{"a{2}\naa\n", `\{a\{2}{`, "a{2}\n"},
		{"ab\nba\n", `\^\^b^`, "ba\n"},
		{"ab\nba\n", `\$b\$$`, "ab\n"},
		{"a|b\na\n", `\|a\|b|`, "a|b\n"},
		// In brackets, too.
		{"/\na\n", `/[\/]/`, "/\n"},
		{"/\na\n\\\n", `\,[/\],`, "/\n\\\n"},
		{",\na\n\\\n", `\,[\,],`, ",\n"},
		{"]\n]]\na]\n", `\]^[^a\]\]$]`, "]]\n"},
		// `\n` is a line feed; where `n` ends it, that byte. Behind a backslash that stands behind another one an `n` is one.
		{"a\nn\n", `/\n/`, ""},
		{"a\nn\n", `\nan`, "a\n"},
		{"a\nn\n", `\n\nn`, "n\n"},
		{"an\naxn\n", `\na.*\nn`, "an\naxn\n"},
		{"n\n\\n\n", `/\\n/`, "\\n\n"},
		{"n\n\\\na\n", `/[\\n]/`, "n\n\\\n"},
		{"n\n\\\na\n", `/[\n]/`, ""},
		{"n\n\\\na\n", `/[^\n]/`, "n\n\\\na\n"},
		{"n\n\\\n", `\n[\n]n`, "n\n"},
		{"\\,a\n,a\n", `\,\\\,a,`, "\\,a\n"},
		// Basic ones.
		{"a+\naa\n", "/a+/", "a+\n"},
		{"ab\nabab\n", `/^\(ab\)\{2\}$/`, "abab\n"},
		{"a\nA\n", "/a/", "a\n"},
		{"a\n*a\n", "/*a/", "*a\n"},
		{"a\n]\n", "/[]]/", "]\n"},
	} {
		edits(t, c.in, c.script+"!d", c.out, "")
		tells(t, c.in, c.out, "sed", "-n", c.script+"p")
		tells(t, c.in, c.out, "sed", "-n", c.script+","+c.script+"{"+c.script+"p;}")
	}
	// A line feed of its own: it may be repeated, and is found among others.
	edits(t, "a\nb\n", `N;s/a\n*b/x/`, "x\n", "")
	edits(t, "a\nb\n", `$!N;s/\(\n\)\{1\}/-/`, "a-b\n", "")
	edits(t, "a\nb\n", `$!N;s/[x\n]b/-/`, "a-\n", "")
	edits(t, "a\nb\n", `$!N;sna.bnxn`, "x\n", "")
}

func TestExpressionsThatMayNotBe(t *testing.T) {
	checks(t, api.ErrScript, "/", "/a", "/a\\/", "/a\\/p", `\`, `\,`, `\,a`, `\,a\,p`, "\\\na\np", `\\a\p`, `\\\a\\p`, "/a\nb/p", "/a\\\nb/p", "/[a\n]/p", "/[a\\\n]/p", "\\\n", "/\\", "/a/,/b", "1,/", "/a/b/p", "s/a\nb//", "s/a\\\nb//", "/a/I p", "/a/,\\", "/[\n", "/\\(\n/")
	checks(t, api.ErrRegex, "/[/p", "/[a/p", `/\(/p`, `/\)/p`, `/a**/p`, `/a\{2/p`, `/\a/p`, `/\1/p`, `\,[,p`, "1,/[/p", "/[/,1p", `/a\\/,/\(/p`, "s/[//", `s/\(/x/`, `s,\},,`, `/[[:x:]]/p`, `/[b-a]/p`, `/\{1\}/p`, `\}a\{1\}}p`, "//,/[/p", `/[/]/p`, `s/[/]/x/`, `\][\]]p`)
	checks(t, api.ErrMany, `/\(a\{255\}\)\{40\}/p`, `s/\(a\{255\}\)\{40\}//`, `\,\(a\{255\}\)\{40\},!p`, "/"+strings.Repeat("a", 10001)+"/p")
	checks(t, api.OK, `/\(a\{248\}\)\{40\}/p`, "/"+strings.Repeat("a", 9999)+"/p")
}

// An empty expression is the one that was held against something last.
func TestEmptyExpressions(t *testing.T) {
	for _, c := range []struct{ in, script, out string }{
		{"a\nb\n", "//d", "a\nb\n"},
		{"a\nb\n", "//!d", ""},
		{"a\nb\n", "s//x/", "a\nb\n"},
		{"a\nb\n", "//,$d", "a\nb\n"},
		{"a\nb\n", "/a/s//x/", "x\nb\n"},
		{"a\nb\n", "/a/!s//x/", "a\nb\n"},
		{"ab\nb\n", "s/a/x/;s//y/;s/b/a/;s//z/", "xa\na\n"},
		{"a\nb\na\n", "/a/p;//s/$/x/", "a\nax\nb\na\nax\n"},
		// Not the one that is written ahead of it.
		{"a\nb\n", "1{/b/p;};2s//x/", "a\nx\n"},
		{"a\nb\n", "2s//x/;1s/b/y/", "a\nx\n"},
		{"a\nb\n", "2{/q/b\n};s/a/x/;s//z/", "x\nb\n"},
		{"ab\nab\n", "1b l;s/a/x/;:l\ns//y/;s/b/z/", "az\nxz\n"},
		{"ab\nab\n", "1bl;s/b/x/;:l\n//s//y/;s/a/z/", "zb\nzx\n"},
		{"ab\nab\n", "s//y/;s/a/z/;s/b/w/", "zw\nzy\n"}, // the one of the cycle ahead
		// Of a range just what is held against the line.
		{"a\nb\nc\n", "/a/,/b/{s//x/;}", "x\nx\nc\n"},
		{"b\na\nb\na\n", "/a/,/b/s//x/", "b\nx\nx\nx\n"},
		{"b\na\nb\na\n", "/a/,//s//x/", "b\nx\nb\nx\n"},
		// A backslash and the byte that ends it, `\n`, or `^`, are not empty.
		{"a/\n", `/a/s/\//x/`, "ax\n"},
		{"a\n", `/a/s/\n/x/`, "a\n"},
		{"ba\n", `/a/s/^/x/`, "xba\n"},
		{"ba\n", `/a/s/\(\)/x/`, "xba\n"},
		{"ba\n", `/a/s,,x,`, "bx\n"},
		{"ba\n", `\,a,\,,d`, bad},
		{"ba\n", `/a/{\,,s,,x,;}`, "bx\n"},
	} {
		if c.out == bad {
			checks(t, api.ErrScript, c.script)
			continue
		}
		edits(t, c.in, c.script, c.out)
	}
	checks(t, api.OK, "//p", "//,//p", "s///", "s///2", `\,,p`, "//!p")
}

// P18.2: what stands behind letters.

func TestBehindLetters(t *testing.T) {
	for _, c := range []string{"=", "q", "d", "D", "g", "G", "h", "H", "n", "N", "p", "P", "x", "y/a/b/", "s/a/b/", "s/a/b/g", "{p}"} {
		checks(t, api.OK, c, c+" ", c+" \t", c+";", c+" ;", c+"\n", c+"\t\n", c+";p", c+"\np", c+" ;;p", "{"+c+"}", "{"+c+" }", "{"+c+"\t}\t;p", "{"+c+";}", "{"+c+"\n}", "{"+c+"};p", "{{"+c+"}}", "{ {"+c+" } }", c+";#", c+"\n#x")
		checks(t, api.ErrScript, c+" p", c+",", c+"#", c+" #", c+"\\", c+"\r", c+"{", c+"}", c+" }", c+"{p}", c+"!", "{"+c+"}p", "{"+c+"} p", "{"+c+"}{p}", c+"\x00", c+"\xff", c+"\\\n")
		if !strings.HasPrefix(c, "s") {
			checks(t, api.ErrScript, c+"1", c+"g", c+"p", "{"+c+"p}")
		}
	}
}

func TestBlocks(t *testing.T) {
	checks(t, api.OK, "{}", "{;}", "{\n}", "{ }", "{p}", "{p;p}", "{ p ; p }", "{\n\tp\n}\n", "{{}}", "{};{}", "{}\n{}", "{{p};{p}}", "{{p}}", "1{2{3{p}}}", "{1p}", "{!p}", "1,2!{p}", "{#}\n}", "{:a\n}", "{a\\\n}\n}", "{ba\n};:a", strings.Repeat("{", 5000)+strings.Repeat("}", 5000))
	checks(t, api.ErrScript, "{", "}", "{p", "p}", "{p}}", "{{p}", "{p;", "};p", "}p{", "}{", "{}{}", "{}p", "{b}", "{ba}", "{:a}", "{#}", "{a\\\n}", "1}", "{1}", "{p!}", "{!}", "{p;1}", "{}}", "{ {}", strings.Repeat("{", 5000)+strings.Repeat("}", 4999), strings.Repeat("{", 5000)+strings.Repeat("}", 5001))
	for _, c := range []struct{ script, out string }{
		{"{}", ""},
		{"2{p}", "b\n"},
		{"2{p;p}", "b\nb\n"},
		{"2!{p}", "a\nc\n"},
		{"2!{p;};p", "a\na\nb\nc\nc\n"},
		{"1,2{2{p};p}", "a\nb\nb\n"},
		{"1,2{1!{p};1p}", "a\nb\n"},
		{"{{{3{p}}}}", "c\n"},
		{"1{2{p}};3p", "c\n"},
		{"!{p}", ""},
		{"!{p;{p}};p", "a\nb\nc\n"},
		{"1{{p};{p};{{p}}};1!{{};p}", "a\na\na\nb\nc\n"},
		{"2{bx\n};p;:x", "a\nc\n"},
		{"2{bx\n};d;{:x\np}", "b\n"},
		{"/b/{s//x/;p}", "x\n"},
	} {
		tells(t, "a\nb\nc\n", c.out, "sed", "-n", c.script)
	}
}

func TestTexts(t *testing.T) {
	for _, letter := range []string{"a", "i", "c"} {
		for _, c := range []struct{ script, out string }{
			{"\\\none\n", "one\n"},
			{"\\\none", "one\n"},
			{" \\\none", "one\n"},
			{" \t \\\none", "one\n"},
			{"\\\n", "\n"},
			{"\\\n\n", "\n"},
			{"\\\n\n\n", "\n"},
			{"\\\n  one  \n", "  one  \n"},
			{"\\\n\tone", "\tone\n"},
			{"\\\none\\\ntwo\n", "one\ntwo\n"},
			{"\\\none\\\ntwo\\\n", "one\ntwo\n\n"},
			{"\\\n\\\n\\\n", "\n\n\n"},
			{"\\\none\\two\\\\three", "onetwo\\three\n"},
			{"\\\n\\o\\n\\e\\&", "one&\n"},
			{"\\\n\\\\\n", "\\\n"},
			{"\\\none\\", "one\n"}, // a backslash at the end of the script
			{"\\\n\\", "\n"},
			{"\\\none\\\\", "one\\\n"},
			{"\\\none;p}{&#", "one;p}{&#\n"},
			{"\\\n#one", "#one\n"},
			{"\\\n\xff\x00\r", "\xff\x00\r\n"},
			{"\\\none\n;\n  # p\n", "one\n"},
		} {
			out := map[string]string{"a": "q\n" + c.out, "i": c.out + "q\n", "c": c.out}[letter]
			edits(t, "q\n", letter+c.script, out)
			edits(t, "q\n", "$ ! p;$ !"+letter+"\\\nno\n$"+letter+c.script, out)
		}
		checks(t, api.OK, letter+"\\\n", letter+"\\\n\\")
		checks(t, api.ErrScript, letter, letter+" ", letter+"\n", letter+"\\", letter+"one", letter+" one", letter+"\\one", letter+"\\ \none", letter+"\\\t\n", letter+"\n\\\n", letter+";", letter+"}", letter+"\r\\\n", letter+"\\\r\n", "{"+letter+"\\\none}", "{"+letter+"\\\none\\\n}")
		// What follows behind the text's line feed is a command.
		edits(t, "q\nr\n", "1"+letter+"\\\none\n$d\n", map[string]string{"a": "q\none\n", "i": "one\nq\n", "c": "one\n"}[letter])
		edits(t, "q\n", "{"+letter+"\\\none\n}", map[string]string{"a": "q\none\n", "i": "one\nq\n", "c": "one\n"}[letter])
	}
}

func TestLabels(t *testing.T) {
	checks(t, api.OK, ":a", ": a", ":\ta", ":a ", ":a\t ", ":a;", ":a\n", ":a;:b", ":a;:A", ":a;:aa", ":a;:a a", "b", "t", "b;", "b ;p", "t\n", "b\t", ":a;ba", "ba;:a", ":a;ta", "ta\n:a", ":a;b a ;t  a\t\n", ":a b;ba b", ":}\nb}", ":{;b{", ":a}\nba}", ":#\nb#", ":a#b;ba#b", ":1;b1", ":\\;b\\", ":a!;b a!", ":\xff;b\xff", "{:a\n};ba", "ba;{:a\n}", ":a;ba;ba;ta", "!b", "1b", "1,2t", ":a,b;ba,b", ":  a  b  ;b a  b")
	checks(t, api.ErrScript, ":", ": ", ":;", ":\n", ":\t;p", ":a;:a", ":a;:a ", ":a\n:  a", ":b;:a;:b", ":a;{:a\n}", "ba", "ta", "ba;:b", ":a;bA", ":a;bb", ":ab;ba", ":a;bab", "b a;:", ":a p;ba", "b}", "{b}", "{p;b}", "{ba};:a", ":a;b a b", "1:a", "!:a", "1,2:a", " 1 :a;ba", ":a  b;ba b")
	for _, c := range []struct{ script, out string }{
		{"2bx;p;:x", "a\nc\n"},
		{"2b x ;p;: x ", "a\nc\n"},
		{"2bx\np\n:x\n", "a\nc\n"},
		{"2ba b ;p;: a b\n", "a\nc\n"},
		{"2b}\np;:}\n", "a\nc\n"},
		{"2b;p", "a\nc\n"},
		{"2b ;p;:x", "a\nc\n"},
		{"by;:x\np;b;:y\n2bx", "b\n"},
		{"2{bx\n};p;:x", "a\nc\n"},
	} {
		tells(t, "a\nb\nc\n", c.out, "sed", "-n", c.script)
	}
}

func TestExchanges(t *testing.T) {
	for _, c := range []struct{ in, script, out string }{
		{"abc\n", "y/abc/xyz/", "xyz\n"},
		{"abc\n", "y///", "abc\n"},
		{"abc\n", "y/ab/ba/", "bac\n"},
		{"abc\n", "y/a/a/", "abc\n"},
		{"abc\n", "y/abc/xxx/", "xxx\n"},
		{"abc\n", "y,abc,xyz,", "xyz\n"},
		{"a,c\n", `y,a\,,\,a,`, ",ac\n"},
		{"a/c\n", `y/\/a/a\//`, "/ac\n"},
		{"a/c\n", `y|a/|/a|`, "/ac\n"},
		{"abc\n", "y a b ", "bbc\n"},
		{"abc\n", "y;a;b;", "bbc\n"},
		{"abc\n", "y}a}b}", "bbc\n"},
		{"a1b\n", `y1a1b1`, "b1b\n"},
		{"a1b\n", `y1a\11\1b1`, "1bb\n"},
		{"anb\n", `ynanbn`, "bnb\n"},
		{"anb\n", `yna\nn\nan`, "nab\n"},
		{"ab\n", `N;y/a/b/`, ""},
		{"a\nb\n", `N;y/\n/,/`, "a,b\n"},
		{"a,b\n", `y/,/\n/`, "a\nb\n"},
		{"a\\n\n", `y/\\n/ab/`, "aab\n"},
		{"ab\n", `y/ab/\\n/`, "\\n\n"},
		{"a\\b\n", `y/a\\/\\a/`, "\\ab\n"},
		{"a]b\n", `y/]/[/`, "a[b\n"},
		{"a.b*\n", `y/.*/*./`, "a*b.\n"},
		{"\xff\x00a\n", "y/\xff\x00/\x00\xff/", "\x00\xffa\n"},
		{"a\xffb\n", "y\xffab\xffba\xff", "b\xffa\n"},
		{"a-c\n", "y/a-c/123/", "123\n"},
	} {
		edits(t, c.in, c.script, c.out, "")
	}
	checks(t, api.ErrScript, "y", "y/", "y//", "y/a", "y/a/", "y/a/b", "y/a/bc/", "y/ab/c/", "y/a//", "y//a/", "y/aa/bc/", "y/aba/cde/", "y/\n/a/", "y/a/\n/", "y/\\\n/a/", "y/a/\\\n/", `y/\a/b/`, `y/a/\b/`, `y/\&/b/`, `y/\1/b/`, `y/\t/b/`, `y/a/\/`, `y/\//`, `y\a\b\`, "y\na\nb\n", "y/a\\/b/", "y/a/b/g", "y/a/b/p", "y/a/b/ 1", `y,\/,a,`, `y/\n\n/ab/`, `y/\\\\/ab/`, `y/\//a`, `y,\,\,,ab,`, "y /a/b/", `ynan\\\bn`, "1,2,3y/a/b/")
}

func TestReplacements(t *testing.T) {
	for _, c := range []struct{ in, script, out string }{
		{"abc\n", "s/b/x/", "axc\n"},
		{"abc\n", "s/b//", "ac\n"},
		{"abc\n", "s/b/&&/", "abbc\n"},
		{"abc\n", `s/b/\&/`, "a&c\n"},
		{"abc\n", `s/b/[&]\&[&]/`, "a[b]&[b]c\n"},
		{"abc\n", `s/b/\//`, "a/c\n"},
		{"abc\n", `s/b/x\/y/`, "ax/yc\n"},
		{"abc\n", "s,b,/,", "a/c\n"},
		{"abc\n", `s,b,\,,`, "a,c\n"},
		{"abc\n", `s/b/\n/`, "a\nc\n"},
		{"abc\n", `s/b/\\n/`, "a\\nc\n"},
		{"abc\n", "s/b/\\\n/", "a\nc\n"},
		{"abc\n", "s/b/x\\\n\\\ny/", "ax\n\nyc\n"},
		{"abc\n", `s/b/\\/`, "a\\c\n"},
		{"abc\n", `s/b/\\\//`, "a\\/c\n"},
		{"abc\n", `s/b/\\&/`, "a\\bc\n"},
		{"abc\n", `s/b/\x\.\t\*\[/`, "ax.t*[c\n"},
		{"abc\n", "s/b/\\\xff\xfe\x00/", "a\xff\xfe\x00c\n"},
		{"abc\n", "s/b/1;}{#$^*.[/", "a1;}{#$^*.[c\n"},
		// The delimiter, first of all.
		{"abc\n", "snbnxn", "axc\n"},
		{"abc\n", `snbnx\nn`, "axnc\n"},
		{"abc\n", "snbnx\\\nn", "ax\nc\n"},
		{"a1c\n", `s1\11x\11`, "ax1c\n"},
		{"a1c\n", `s1c1\11`, "a11\n"},
		{"abc\n", `s&b&x\&&`, "ax&c\n"},
		{"a&c\n", `s&\&&\&x&`, "a&xc\n"},
		{"abc\n", "s b x ", "axc\n"},
		{"abc\n", "s\tb\tx\tg", "axc\n"},
		{"abc\n", "s;b;x;", "axc\n"},
		{"abc\n", "s}b}x}", "axc\n"},
		{"abc\n", "{s}b}x}}", "axc\n"},
		{"abc\n", "s#b#x#", "axc\n"},
		{"abc\n", "s\xffb\xff\\\xff\xff", "a\xffc\n"},
		{"abc\n", "sgbgxgg", "axc\n"},
		{"abc\n", "spbpxpp", "axc\naxc\n"},
		{"abc\n", "s2b2x21", "axc\n"},
		{"abc\n", "s!b!x!", "axc\n"},
		{"abc\n", "s,b,&,", "abc\n"},
		{"abc\n", "s|b|(&)|", "a(b)c\n"},
		{"a.c\n", "s.\\..x.", "x.c\n"}, // any byte, since the backslash is left out
	} {
		edits(t, c.in, c.script, c.out)
	}
	checks(t, api.ErrScript, "s", "s/", "s/a", "s/a/", "s/a/b", `s/a/b\/`, "s\\a\\b\\", "s\na\nb\n", "s/a/b\nc/", "s/a/\n/", "s/a\n/b/", "s//\n", `s/a/\`, `s/a/b\\\/`, "s /a/b/", "s/a/b/c/", "1,2,3s/a/b/")
	for digit := '0'; digit <= '9'; digit++ {
		checks(t, api.ErrScript, `s/a/\`+string(digit)+"/", `s/\(a\)/\\\`+string(digit)+"/", `s,a,b\`+string(digit)+",g", "s/a/\\"+string(digit))
		checks(t, api.OK, `s/a/\\`+string(digit)+"/", "s"+string(digit)+"a"+string(digit)+`\`+string(digit)+string(digit))
	}
}

func TestFlags(t *testing.T) {
	checks(t, api.OK, "s/a/b/g", "s/a/b/p", "s/a/b/1", "s/a/b/512", "s/a/b/0512", "s/a/b/00000000000001", "s/a/b/gp", "s/a/b/pg", "s/a/b/2g", "s/a/b/g2", "s/a/b/p2", "s/a/b/2p", "s/a/b/gp2", "s/a/b/g2p", "s/a/b/p12g", "s/a/b/2pg", "s/a/b/g ", "s/a/b/2\t;", "{s/a/b/g}", "{s/a/b/3 }")
	checks(t, api.ErrScript, "s/a/b/0", "s/a/b/00", "s/a/b/513", "s/a/b/1000", "s/a/b/99999999999999999999", "s/a/b/gg", "s/a/b/pp", "s/a/b/gpg", "s/a/b/pgp", "s/a/b/1g2", "s/a/b/1p1", "s/a/b/1gp1", "s/a/b/0g", "s/a/b/g0", "s/a/b/g p", "s/a/b/ g", "s/a/b/1 2", "s/a/b/i", "s/a/b/I", "s/a/b/w", "s/a/b/w f", "s/a/b/e", "s/a/b/m", "s/a/b/-1", "s/a/b/+1", "s/a/b/G", "s/a/b/gP", "s/a/b/g,", "s/a/b/g/", "s/a/b/2q", "s/a/b/p#")
	for _, c := range []struct{ script, out, quiet string }{
		{"s/a/b/", "baaa\n", ""},
		{"s/a/b/1", "baaa\n", ""},
		{"s/a/b/2", "abaa\n", ""},
		{"s/a/b/004", "aaab\n", ""},
		{"s/a/b/5", "aaaa\n", ""},
		{"s/a/b/512", "aaaa\n", ""},
		{"s/a/b/g", "bbbb\n", ""},
		{"s/a/b/1g", "bbbb\n", ""},
		{"s/a/b/3g", "aabb\n", ""},
		{"s/a/b/g3", "aabb\n", ""},
		{"s/a/b/5g", "aaaa\n", ""},
		{"s/a/b/p", "baaa\nbaaa\n", "baaa\n"},
		{"s/a/b/pg2", "abbb\nabbb\n", "abbb\n"},
		{"s/a/b/5p", "aaaa\n", ""},
		{"s/x/b/p", "aaaa\n", ""},
		{"s/a/a/p", "aaaa\naaaa\n", "aaaa\n"}, // the same, but put in
	} {
		edits(t, "aaaa\n", c.script, c.out, c.quiet)
	}
	j := jobOf(strings.Repeat("a", 600)+"\n", "sed", "s/a/b/512;s/a/c/511g")
	j.Lim = lim(4, 600)
	anyhow(t, j, strings.Repeat("a", 510)+"cb"+strings.Repeat("c", 88)+"\n", "", 0)
}

func TestRemarks(t *testing.T) {
	checks(t, api.OK, "#", "# ", "#p", "#\n", "#x\np", "p;#", "p\n# }{/\\[\np", "#\\\np", "{#}\np}", "{p;# }\n}", " # ", ";#", "##", "#;z", "#n", "#n\n", "#n p", "#;#")
	checks(t, api.ErrScript, "1#", "!#", "1,2#", "#\nz", "p#", "p #", "{#}", "1!#x")
	edits(t, "a\n", "#d\np;# d\n#d;d\n# a\\\np", "a\na\na\n", "a\na\n")
}

// `#n` is -n, if the script begins with it, and nothing else stands in its line.
func TestQuietRemarks(t *testing.T) {
	for script, isQuiet := range map[string]bool{
		"#n": true, "#n\n": true, "#n\np": true, "#n\n\n": true,
		"#n ": false, "#n;": false, "#nn": false, "#N": false, "# n": false, " #n": false, "\n#n": false, ";#n\n": false, "#n\t\n": false, "p;#n": false, "##n": false, "#n#n\n": false, "{}\n#n\n": false, "#n;#n\n": false, "#\n#n": false, "#n\r\n": false,
	} {
		out := strings.Repeat("a\n", strings.Count(script, "p"))
		quiet := out
		if !isQuiet {
			out += "a\n"
		}
		edits(t, "a\n", script, out, quiet)
	}
	// The script is that of all parts.
	tells(t, "a\n", "", "sed", "-e", "#n", "-e", "")
	tells(t, "a\n", "a\n", "sed", "-e", "#n", "-e", "p")
	tells(t, "a\n", "a\na\n", "sed", "-e", "p", "-e", "#n")
	tells(t, "a\n", "a\n", "sed", "-e", "", "-e", "#n")
	j := jobOf("a\n", "sed", "-f", "quiet", "-e", "p")
	j.Nodes = append(j.Nodes, file("/quiet", "#n\n"))
	anyhow(t, j, "a\n", "", 0)
	j.Args = []string{"sed", "-f", "none", "-f", "quiet", "-e", "p"}
	anyhow(t, j, "a\na\n", "", 0)
}

// Of several errors the first one from the beginning on; a label that there is not, and a block that does not end, behind all.
func TestTheFirstError(t *testing.T) {
	checks(t, api.ErrRegex, "/[/p;z", "/[/z", "/[/", "/[/p}", "{/[/p", "bx;/[/p", "tx\n{s/[//", "/[/,0p", "/[/ ,1p", "/[/,/b", "1,/[/=", "/[/,/b/q", "s/[/", "s/[/x", "s/[/\n/", `s/[/\1/`, "s/[//gg", "s/[//z", "s/[//0", "s/[/x/ p", "/[/:a", "/[/}", "/[/!#", "/[/a", "/[/ya", "/[/p;"+`/\(a\{255\}\)\{40\}/p`, "/a/,/[/!", ":a;/[/p;:a", "ba;/[/p;bb")
	checks(t, api.ErrMany, `/\(a\{255\}\)\{40\}/p;/[/p`, `/\(a\{255\}\)\{40\}/z`, `{bx`+"\n"+`s/\(a\{255\}\)\{40\}/`)
	checks(t, api.ErrScript, "z;/[/p", "p p;/[/p", "0p;/[/p", "}/[/p", ":;/[/p", ":a;:a;/[/p", "y/a/bc/;s/[//", "s/a/b/gg;s/[//", "s/a/\\1/;/[/p", "1=p;/[/p", "1,2=;/[/p", "1:a;/[/p", "a;/[/p", "/a\n/,/[/p", "0,/[/p", "1,2,/[/p", ",/[/p", "s/[\n//;s/[//", "/[", "s/[", "y/[/", "#\n1;/[/p", "{;p", "bx", "{bx", "bx;{p")
}

// Every short text, against the model's way to read it.
func TestEveryShortScript(t *testing.T) {
	pieces := []string{"1", "0", "$", "/", "\\", ",", "!", "{", "}", "p", ";", "\n", " ", "s", "y", "a", "b", ":", "#", "n", "=", "&", "g", "["}
	n := map[api.Errno]int{}
	for _, s := range everyText(3, pieces...) {
		n[isReadAsInTheModel(t, s)]++
	}
	c := chanceOf(8)
	for range 60000 {
		n[isReadAsInTheModel(t, c.some(14, pieces...))]++
	}
	for range 20000 {
		s := c.script()
		n[isReadAsInTheModel(t, s)]++
		at := c.Intn(len(s) + 1)
		n[isReadAsInTheModel(t, s[:at]+c.of(pieces...)+s[at:])]++
	}
	if min(n[api.OK], n[api.ErrRegex], n[api.ErrScript]) < 200 {
		t.Errorf("the errors are %v", n)
	}
}

// isReadAsInTheModel fails, if Check answers something else than the model.
func isReadAsInTheModel(t *testing.T, s string) api.Errno {
	t.Helper()
	want := api.OK
	if _, wrong := readScript(s); wrong != "" {
		want = map[string]api.Errno{bad: api.ErrScript, "bad regular expression": api.ErrRegex, "too many": api.ErrMany}[wrong]
	}
	e := sed.Check(s, false)
	if e != want {
		t.Errorf("Check(%q): %d, not %d", s, e, want)
	}
	return e
}

// everyText are all texts of up to so many signs.
func everyText(most int, signs ...string) []string {
	all := []string{""}
	for begin := 0; most > 0; most-- {
		end := len(all)
		for _, s := range all[begin:end] {
			for _, sign := range signs {
				all = append(all, s+sign)
			}
		}
		begin = end
	}
	return all
}
