package sed_test

import "testing"

// P18.5: what each letter does: without -n, and with it.
func TestLetters(t *testing.T) {
	const in = "a\nb\nc\n"
	for _, c := range []struct{ script, out, quiet string }{
		// =, p, P, i.
		{"=", "1\na\n2\nb\n3\nc\n", "1\n2\n3\n"},
		{"$=;1=", "1\na\nb\n3\nc\n", "1\n3\n"},
		{"N;=;N;=", "2\n3\na\nb\nc\n", "2\n3\n"},
		{"n;=", "a\n2\nb\nc\n", "2\n"},
		{"p", "a\na\nb\nb\nc\nc\n", "a\nb\nc\n"},
		{"p;p;d", "a\na\nb\nb\nc\nc\n", "a\na\nb\nb\nc\nc\n"},
		{"s/./&&/;p;s/.//", "aa\na\nbb\nb\ncc\nc\n", "aa\nbb\ncc\n"},
		{"P", "a\na\nb\nb\nc\nc\n", "a\nb\nc\n"},
		{"$!N;P;d", "a\nc\n", "a\nc\n"},
		{"N;N;P;s/a/x/;P;p", "a\nx\nx\nb\nc\nx\nb\nc\n", "a\nx\nx\nb\nc\n"},
		{`s/^/\n/;P;d`, "\n\n\n", "\n\n\n"},
		{`s/$/\n/;P;d`, in, in},
		{"i\\\none", "one\na\none\nb\none\nc\n", "one\none\none\n"},
		{"i\\\none\ni\\\ntwo\n$!d", "one\ntwo\none\ntwo\none\ntwo\nc\n", "one\ntwo\none\ntwo\none\ntwo\n"},
		{"2i\\\none", "a\none\nb\nc\n", "one\n"},
		{"p;$i\\\none", "a\na\nb\nb\nc\none\nc\n", "a\nb\nc\none\n"},
		// a: at the end of the cycle, or when n and N read a line, also where the pattern space is let go.
		{"a\\\none", "a\none\nb\none\nc\none\n", "one\none\none\n"},
		{"a\\\none\np", "a\na\none\nb\nb\none\nc\nc\none\n", "a\none\nb\none\nc\none\n"},
		{"1a\\\none\nd", "one\n", "one\n"},
		{"$a\\\none\na\\\ntwo", "a\ntwo\nb\ntwo\nc\none\ntwo\n", "two\ntwo\none\ntwo\n"},
		{"1a\\\none\nn;s/$/x/", "a\none\nbx\nc\n", "one\n"},
		{"1a\\\none\nn;p", "a\none\nb\nb\nc\n", "one\nb\n"},
		{"1a\\\none\nN;N", "one\na\nb\nc\n", "one\n"},
		{"1{N;a\\\none\nN;a\\\ntwo\n}", "one\na\nb\nc\ntwo\n", "one\ntwo\n"},
		{"a\\\none\nn", "a\none\nb\nc\none\n", "one\none\n"},
		{"a\\\none\nN", "one\na\nb\none\n", "one\none\n"},
		{"$!N;a\\\none\nP;D", "a\none\nb\none\nc\none\n", "a\none\nb\none\nc\none\n"},
		{"a\\\none\nq", "a\none\n", "one\n"},
		{"a\\\none\nc\\\ntwo", "two\none\ntwo\none\ntwo\none\n", "two\none\ntwo\none\ntwo\none\n"},
		{"i\\\none\na\\\ntwo", "one\na\ntwo\none\nb\ntwo\none\nc\ntwo\n", "one\ntwo\none\ntwo\none\ntwo\n"},
		{":x\ns/^/./;a\\\none\n/^..../!bx", "...a\none\none\none\n...b\none\none\none\n...c\none\none\none\n", "one\none\none\none\none\none\none\none\none\n"},
		// c: with two addresses and no `!` at the last time of the range alone.
		{"c\\\none", "one\none\none\n", "one\none\none\n"},
		{"2c\\\none", "a\none\nc\n", "one\n"},
		{"$c\\\none", "a\nb\none\n", "one\n"},
		{"/b/c\\\none\np", "a\na\none\nc\nc\n", "a\none\nc\n"},
		{"2!c\\\none", "one\nb\none\n", "one\none\n"},
		{"1,2c\\\none", "one\nc\n", "one\n"},
		{"2,3c\\\none", "a\none\n", "one\n"},
		{"1,3c\\\none", "one\n", "one\n"},
		{"3,1c\\\none", "a\nb\none\n", "one\n"},
		{"2,2c\\\none", "a\none\nc\n", "one\n"},
		{"1,$c\\\none", "one\n", "one\n"},
		{"2,/c/c\\\none", "a\none\n", "one\n"},
		{"1,/x/c\\\none", "", ""}, // the range has no last time
		{"2,9c\\\none", "a\n", ""},
		{"$,$c\\\none", "a\nb\n", ""},
		{"1,2!c\\\none", "a\nb\none\n", "one\n"},
		{"2,3!c\\\none", "one\nb\nc\n", "one\n"},
		{"4,5!c\\\none", "one\none\none\n", "one\none\none\n"},
		{"1,2{c\\\none\n}", "one\none\nc\n", "one\none\n"},
		{"/[ab]/,/[bc]/c\\\none", "one\nc\n", "one\n"},
		{"c\\\none\np;a\\\ntwo", "one\none\none\n", "one\none\none\n"},
		// d, D.
		{"d", "", ""},
		{"2d;p", "a\na\nc\nc\n", "a\nc\n"},
		{"d;p", "", ""},
		{"$!d", "c\n", ""},
		{"D", "", ""},
		{"2D;p", "a\na\nc\nc\n", "a\nc\n"},
		{"$!N;D", "", ""},
		{"$!N;P;D", in, in},
		{"N;D", "", ""},
		{"N;N;D", "", ""},
		{"/^x/d;s/^/x/;s/$/\\\nx/;P;D", "xa\nxb\nxc\n", "xa\nxb\nxc\n"},
		{"1{N;N;}\n=;D", "3\n3\n3\n", "3\n3\n3\n"},
		{`1{N;s/^/\n/;}` + "\np;D", "\na\nb\na\nb\nb\nc\n", "\na\nb\na\nb\nb\nc\n"},
		// g, G, h, H, x.
		{"g", "\n\n\n", ""},
		{"G", "a\n\nb\n\nc\n\n", ""},
		{"h;G", "a\na\nb\nb\nc\nc\n", ""},
		{"h;d;g", "", ""},
		{"1h;2,$g", "a\na\na\n", ""},
		{"1!G;h;$!d", "c\nb\na\n", ""},
		{"H;$!d;g", "\na\nb\nc\n", ""},
		{"H;$!d;x", "\na\nb\nc\n", ""},
		{"H;x", "\na\na\nb\nb\nc\n", ""},
		{"x", "\na\nb\n", ""},
		{"x;p;x", "\na\n\nb\n\nc\n", "\n\n\n"},
		{"1h;1!H;${g;s/\\n/-/g;p;}", "a\nb\na-b-c\na-b-c\n", "a-b-c\n"},
		{"2{h;d;};$G", "a\nc\nb\n", ""},
		{"h;s/./x/;G", "x\na\nx\nb\nx\nc\n", ""},
		{"x;s/^/x/;x;$g", "a\nb\nxxx\n", ""},
		{"g;s/^/x/;x", "\nx\nxx\n", ""},
		{"G;G;s/\\n/,/g", "a,,\nb,,\nc,,\n", ""},
		// n, N, q: ahead of the last line, and at it.
		{"n;d", "a\nc\n", ""},
		{"n;p", "a\nb\nb\nc\n", "b\n"},
		{"n;n;s/./x/", "a\nb\nx\n", ""},
		{"$!n;s/./x/", "a\nx\nx\n", ""},
		{"$n;s/./x/", "x\nx\nc\n", ""},
		{"$n;p", "a\na\nb\nb\nc\n", "a\nb\n"},
		{"N", "a\nb\n", ""},
		{"N;N", "a\nb\nc\n", ""},
		{"N;N;N", "", ""},
		{"$!N", "a\nb\nc\n", ""},
		{"$!N;s/\\n/-/", "a-b\nc\n", ""},
		{"N;s/\\n/-/;p", "a-b\na-b\n", "a-b\n"},
		{"$N;p", "a\na\nb\nb\n", "a\nb\n"},
		{"1N;2N;s/\\n/-/g", "a-b-c\n", ""},
		{"N;n;d", "a\nb\n", ""},
		{"q", "a\n", ""},
		{"2q", "a\nb\n", ""},
		{"2q;p", "a\na\nb\n", "a\n"},
		{"$q;p", "a\na\nb\nb\nc\n", "a\nb\n"},
		{"$!N;q", "a\nb\n", ""},
		{"p;q;p", "a\na\n", "a\n"},
		{"2{s/^/x/;q;}", "a\nxb\n", ""},
		{"d;q", "", ""},
		// b, t.
		{"b;d", in, ""},
		{"2b;s/./x/", "x\nb\nx\n", ""},
		{"2bx\ns/./y/;:x\ns/$/z/", "yz\nbz\nyz\n", ""},
		{":x\ns/^/x/;/^xxx/!bx", "xxxa\nxxxb\nxxxc\n", ""},
		{"t;d", "", ""},
		{"s/a/x/;t;d", "x\n", ""},
		{"s/a/a/;t;d", "a\n", ""},
		{"s/[ab]/x/;tx\ns/$/y/;:x\ns/$/z/", "xz\nxz\ncyz\n", ""},
		{"s/a/x/;s/x/y/;ty\nd;:y", "y\n", ""},
		{"s/a/x/;s/q/y/;ty\nd;:y", "x\n", ""},
		{"s/a/x/;tx\n:x\nt;d", "", ""}, // behind another t that went on
		{"s/a/x/;tx\n:x\ns/x/y/;t;d", "y\n", ""},
		{"1{s/a/x/;};2,3t;s/$/z/", "xz\nbz\ncz\n", ""}, // not in the next cycle
		{"s/a/x/;n;t;s/$/y/", "x\nb\nc\n", ""},         // no cycle begins with n, N and D
		{"s/a/x/;N;ty\ns/$/y/;:y", "x\nb\n", ""},
		{"/^b/t\ns/^a/q\\\nb/;D", "b\n", ""},
		{"y/a/x/;t;d", "", ""},
		{"1s/a/x/;2!bz\ntz\ns/$/y/;:z", "x\nby\nc\n", ""},
		// y, s: more of them stands with scripts.
		{"y/abc/bca/", "b\nc\na\n", ""},
		{"y/abc/bca/;y/bca/abc/", in, ""},
		{"2y/b/x/;3,4y/c/y/;1!y/a/z/", "a\nx\ny\n", ""},
		{"$!N;y/\\nb/,x/", "a,x\nc\n", ""},
		{"s/b/x/p", "a\nx\nx\nc\n", "x\n"},
		{"s/./&&/2p", in, ""},
		{"2s/b/x/;s/x/y/;s/y/z/p", "a\nz\nz\nc\n", "z\n"},
		// Nothing.
		{"{};:x\n#", in, ""},
	} {
		edits(t, in, c.script, c.out, c.quiet)
	}
}

// s: what is replaced, and what is found behind what was found.
func TestSubstitutions(t *testing.T) {
	for _, c := range []struct{ in, script, out string }{
		// What is empty: not where what was found last ended.
		{"", "s/x*/-/", "-"},
		{"", "s/x*/-/g", "-"},
		{"", "s/x*/-/2", ""},
		{"abc", "s/x*/-/", "-abc"},
		{"abc", "s/x*/-/g", "-a-b-c-"},
		{"abc", "s/x*/-/2", "a-bc"},
		{"abc", "s/x*/-/4", "abc-"},
		{"abc", "s/x*/-/5", "abc"},
		{"abc", "s/x*/-/3g", "ab-c-"},
		{"abc", "s/b*/-/g", "-a-c-"},
		{"abc", "s/b*/-/2", "a-c"},
		{"abc", "s/b*/-/3", "abc-"},
		{"abc", "s/c*/-/g", "-a-b-"},
		{"abc", "s/a*/-/g", "-b-c-"},
		{"baaac", "s/a*/-/g", "-b-c-"},
		{"baaac", "s/a*/<&>/2", "b<aaa>c"},
		{"baaac", "s/a*/<&>/3", "baaac<>"},
		{"abab", `s/\(ab\)*/-/g`, "-"},
		{"abxab", `s/\(ab\)*/-/g`, "-x-"},
		{"abc", "s/.*/-/g", "-"},
		{"abc", "s/.*/-/2", "abc"},
		{"xabx", "s/[ab]*/-/g", "-x-x-"},
		// Side by side, and none within another one.
		{"aaaa", "s/aa/-/g", "--"},
		{"aaaaa", "s/aa/-/g", "--a"},
		{"aaaaa", "s/aa/-/2", "aa-a"},
		{"ababab", "s/aba/-/g", "-bab"},
		{"abab", "s/a*b/<&>/g", "<ab><ab>"},
		{"aabb", "s/a*b/<&>/g", "<aab><b>"},
		{"abc", "s/./<&>/g", "<a><b><c>"},
		// The beginning and the end are there once, whatever was put in.
		{"aaa", "s/^a/-/g", "-aa"},
		{"aaa", "s/^a/-/2", "aaa"},
		{"aaa", "s/a$/-/g", "aa-"},
		{"aaa", "s/^/-/g", "-aaa"},
		{"aaa", "s/$/-/g", "aaa-"},
		{"aaa", "s/^/-/2", "aaa"},
		{"", "s/^$/-/g", "-"},
		{"aaa", "s/^a*$/-/g", "-"},
		{"ab", "s/^a*/-/g", "-b"},
		{"aa", `s/\(^a\)*/-/g`, "-a-"},
		// The first place, and there the longest.
		{"xabc", `s/a\(bc\)*/-/`, "x-"},
		{"xababc", `s/\(ab\)*/-/2`, "x-c"},
		{"xaab", "s/a*/-/", "-xaab"},
		// What is put in is not looked at.
		{"a", "s/a/aa/g", "aa"},
		{"ab", "s/a/b/g;s/b/c/g", "cc"},
		{"a.b", "s/a.b/a*b/;s/a\\*b/&&/", "a*ba*b"},
		{"a&b", `s/&/<&\&>/`, "a<&&>b"},
		{"a\\b", `s/\\/<&\\>/`, "a<\\\\>b"},
		{"\xffa\x00", "s/[\xff\x00]/<&>/g", "<\xff>a<\x00>"},
		{"abc", "s/[^b]/&&/g", "aabcc"},
	} {
		edits(t, c.in+"\n", c.script, c.out+"\n", "")
		// In the midst of others: line feeds are bytes as any other one.
		if c.in != "" {
			tells(t, c.in+"\n", c.out+"\n", "sed", "-n", c.script+";p")
		}
	}
	for _, c := range []struct{ script, out string }{
		{`s/\n/-/`, "a-b\nc\n"},
		{`s/\n/-/2`, "a\nb-c\n"},
		{`s/\n/-/g`, "a-b-c\n"},
		{`s/./-/g`, "-----\n"},
		{`s/.*/-/`, "-\n"},
		{`s/^./-/g`, "-\nb\nc\n"},
		{`s/.$/-/g`, "a\nb\n-\n"},
		{`s/[^a]*/-/2`, "a-\n"},
		{`s/\n\n*/-/g`, "a-b-c\n"},
		{`s/x*\n/&&/g`, "a\n\nb\n\nc\n"},
	} {
		edits(t, "a\nb\nc\n", "N;N;"+c.script, c.out, "")
	}
}
