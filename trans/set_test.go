package trans_test

import (
	"strings"
	"testing"

	"toolchest/trans"
)

// P10.1

// sets fails, if a string stands for something else.
func sets(t *testing.T, s, want string, wantRest int) {
	t.Helper()
	l, rest, ok := trans.Set(s)
	if string(l) != want || rest != wantRest || !ok {
		t.Errorf("Set(%.60q): %.60q (%d bytes), %d, %v, not %.60q (%d bytes), %d", s, l, len(l), rest, ok, want, len(want), wantRest)
	}
}

// setsNot fails, if a string may be.
func setsNot(t *testing.T, s string) {
	t.Helper()
	l, rest, ok := trans.Set(s)
	if len(l) != 0 || rest != -1 || ok {
		t.Errorf("Set(%.60q): %.60q, %d, %v", s, l, rest, ok)
	}
}

const (
	upper  = "ABCDEFGHIJKLMNOPQRSTUVWXYZ"
	lower  = "abcdefghijklmnopqrstuvwxyz"
	digits = "0123456789"
	punct  = "!\"#$%&'()*+,-./:;<=>?@[\\]^_`{|}~"
	graph  = "!\"#$%&'()*+,-./" + digits + ":;<=>?@" + upper + "[\\]^_`" + lower + "{|}~"
	cntrl  = "\x00\x01\x02\x03\x04\x05\x06\x07\x08\x09\x0a\x0b\x0c\x0d\x0e\x0f\x10\x11\x12\x13\x14\x15\x16\x17\x18\x19\x1a\x1b\x1c\x1d\x1e\x1f\x7f"
)

// classes are all of them, with their bytes.
func classes() map[string]string {
	return map[string]string{
		"alpha":  upper + lower,
		"digit":  digits,
		"alnum":  digits + upper + lower,
		"upper":  upper,
		"lower":  lower,
		"blank":  "\t ",
		"space":  "\t\n\v\f\r ",
		"cntrl":  cntrl,
		"print":  " " + graph,
		"graph":  graph,
		"punct":  punct,
		"xdigit": digits + "ABCDEFabcdef",
	}
}

func TestSetClasses(t *testing.T) {
	for name, l := range classes() {
		sets(t, "[:"+name+":]", l, -1)
		sets(t, "z[:"+name+":]-[:"+name+":]", "z"+l+"-"+l, -1)
		sets(t, "[:"+name+":][x*][:"+name+":]", l+"x"+l, len(l))
		sets(t, "["+name+"]", "["+name+"]", -1)
		for _, s := range []string{"[:" + strings.ToUpper(name) + ":]", "[: " + name + ":]", "[:" + name + " :]", "[:" + name + name + ":]", "[:" + name[2:] + ":]", "[:" + name[:len(name)-1] + ":]", "[:\\" + name + ":]", "[:" + name + "::]", "[::" + name + ":]", "[:" + name + ":[:" + name + ":]"} {
			setsNot(t, s)
		}
	}
}

func TestSetWordsThatAreNone(t *testing.T) {
	for _, s := range []string{
		"[::]", "[:::]", "[:a:]", "[:word:]", "[:ascii:]", "[:a-z:]", "[:\x00:]", "[:\xff:]", "[:alpha]:]", "[:[:]:]", "[:]:]",
		"x[:foo:]y", "[:alpha:][:foo:]", "[:foo:][:alpha:]", "[:x[:alpha:]", "[:*5]:]", "[:*]a[:digit:]", "[:-z:]", "[:=a=]:]", "a-c[:\n:]",
	} {
		setsNot(t, s)
	}
}

// What no `:]` follows is no class.
func TestSetClassesThatAreNotEnded(t *testing.T) {
	for _, s := range []string{"[:", "[:]", "[:alpha", "[:alpha:", "[:alpha]", "[:alpha: ]", ":]", "alpha:]", ":alpha:]", "[ :alpha:]", "[:alpha]:", ":][:]", "[[:", "[:[:[:"} {
		sets(t, s, s, -1)
	}
	sets(t, `\[:alpha:]`, "[:alpha:]", -1)
	sets(t, `[\:alpha:]`, "[:alpha:]", -1)
	setsNot(t, `[:alpha\:]`) // a backslash keeps no class from its end: its word is no name
}

func TestSetEquals(t *testing.T) {
	for _, c := range []struct{ s, want string }{
		{"[=a=]", "a"}, {"[===]", "="}, {"[=]=]", "]"}, {"[=[=]", "["}, {"[=-=]", "-"}, {"[=*=]", "*"}, {"[=:=]", ":"}, {"[= =]", " "}, {"[=\x00=]", "\x00"}, {"[=\xe4=]", "\xe4"}, {"[=\n=]", "\n"},
		{`[=\n=]`, "\n"}, {`[=\\=]`, `\`}, {`[=\==]`, "="}, {`[=\q=]`, "q"}, {`[=\]=]`, "]"}, {`[=\7=]`, "\a"}, {`[=\12=]`, "\n"}, {`[=\101=]`, "A"}, {`[=\477=]`, "?"}, {`[=\8=]`, "8"},
		{"[=a=][=b=]", "ab"}, {"x[=a=]-c", "xa-c"}, {"[=a=]*2]", "a*2]"}, {"[=a=]a-c", "aabc"},
		{"[==]", "[==]"}, {"[=", "[="}, {"[=]", "[=]"}, {"[=a", "[=a"}, {"[=a=", "[=a="}, {"[=a]", "[=a]"}, {"[=ab=]", "[=ab=]"}, {"[ =a=]", "[ =a=]"}, {"[=a =]", "[=a =]"}, {"[=\xc3\xa4=]", "[=\xc3\xa4=]"},
		{`[=\=]`, "[==]"}, {`[=\1012=]`, "[=A2=]"}, {`[=\`, `[=\`}, {`[=\\`, `[=\`}, {`\[=a=]`, "[=a=]"}, {`[\=a=]`, "[=a=]"}, {`[=a\=]`, "[=a=]"},
		{"[=*3]", "==="}, {`[=\**3]`, "[=**3]"}, {"[=-?]", "[=>?]"}, {"[=a-c=]", "[=abc=]"},
	} {
		sets(t, c.s, c.want, -1)
	}
}

func TestSetTimes(t *testing.T) {
	for _, c := range []struct {
		s     string
		sign  string
		times int
	}{
		{"[x*1]", "x", 1}, {"[x*2]", "x", 2}, {"[x*7]", "x", 7}, {"[x*8]", "x", 8}, {"[x*10]", "x", 10}, {"[x*99]", "x", 99},
		{"[x*01]", "x", 1}, {"[x*07]", "x", 7}, {"[x*010]", "x", 8}, {"[x*00012]", "x", 10}, {"[x*0100]", "x", 64}, {"[x*" + strings.Repeat("0", 100) + "3]", "x", 3},
		{"[x*65535]", "x", 65535}, {"[x*65536]", "x", 65536}, {"[x*65537]", "x", 65536}, {"[x*70000]", "x", 65536}, {"[x*2147483647]", "x", 65536},
		{"[x*0177777]", "x", 65535}, {"[x*0200000]", "x", 65536}, {"[x*0200001]", "x", 65536}, {"[x*017777777777]", "x", 65536}, {"[x*0000017777777777]", "x", 65536},
		{"[**3]", "*", 3}, {"[[*3]", "[", 3}, {"[]*3]", "]", 3}, {"[-*3]", "-", 3}, {"[:*3]", ":", 3}, {"[=*3]", "=", 3}, {"[3*3]", "3", 3}, {"[ *3]", " ", 3}, {"[\x00*3]", "\x00", 3}, {"[\xff*3]", "\xff", 3}, {"[\n*3]", "\n", 3},
		{`[\n*3]`, "\n", 3}, {`[\\*3]`, `\`, 3}, {`[\**3]`, "*", 3}, {`[\]*3]`, "]", 3}, {`[\[*3]`, "[", 3}, {`[\q*3]`, "q", 3}, {`[\7*3]`, "\a", 3}, {`[\12*3]`, "\n", 3}, {`[\101*3]`, "A", 3}, {`[\400*3]`, "\x00", 3}, {`[\9*3]`, "9", 3},
	} {
		want := strings.Repeat(c.sign, c.times)
		sets(t, c.s, want, -1)
		sets(t, "a"+c.s+"b-d", "a"+want+"bcd", -1)
	}
	sets(t, "[x*2][y*3][x*1]", "xxyyyx", -1)
	sets(t, "[x*2147483647][y*2]", strings.Repeat("x", 65536)+"yy", -1)
	sets(t, "[x*65536][x*65537]", strings.Repeat("x", 2*65536), -1)
	sets(t, "[x*2]-z", "xx-z", -1)
	sets(t, "A-[*2]", upper+"[*2]", -1) // the span comes first
}

func TestSetTimesThatAreNone(t *testing.T) {
	for _, n := range []string{
		"2147483648", "2147483649", "4294967296", "4294967297", "9223372036854775807", "9223372036854775808", "18446744073709551616", "18446744073709551617", "1" + strings.Repeat("0", 100),
		"020000000000", "0" + strings.Repeat("7", 100), "01000000000000000000000", "02000000000000000000000",
		"08", "09", "018", "0080", "00000000009", "0177778", "08" + strings.Repeat("0", 100),
	} {
		setsNot(t, "[x*"+n+"]")
		setsNot(t, "ab[x*"+n+"]c")
		setsNot(t, `[\n*`+n+`]`)
		sets(t, "[x*"+n, "[x*"+n, -1) // it fits no more
		sets(t, `[\x*`+n, "[x*"+n, -1)
	}
	for _, s := range []string{"[x*", "[x*2", "[x*2 ]", "[x* 2]", "[x *2]", "[ x*2]", "[x*+2]", "[x*2a]", "[x*a]", "[x*0x2]", "[xy*2]", "[*2]", "[*]", "[x2]", "[x]", "[", "[*", "[]", "[]*", "x*2]", "[x**2]", "[x*2\xff]", "[\xc3\xa4*2]"} {
		sets(t, s, s, -1)
	}
	for _, c := range []struct{ s, want string }{{`\[x*2]`, "[x*2]"}, {`[x\*2]`, "[x*2]"}, {`[x*2\]`, "[x*2]"}, {`[x*\2]`, "[x*\x02]"}, {`[\x`, "[x"}, {`[\`, `[\`}, {`[\*2]`, "[*2]"}, {"[x*2-4]", "[x*234]"}, {"[x*-2]", "[x*+,-./012]"}} {
		sets(t, c.s, c.want, -1)
	}
}

func TestSetFills(t *testing.T) {
	for _, fill := range []string{"[x*]", "[x*0]", "[x*00]", "[x*" + strings.Repeat("0", 100) + "]", `[\x*]`, `[\170*0]`, `[\570*]`} {
		sets(t, fill, "x", 0)
		sets(t, fill+"ab", "xab", 0)
		sets(t, "a"+fill+"b", "axb", 1)
		sets(t, "ab"+fill, "abx", 2)
		sets(t, "xx"+fill+"xx", "xxxxx", 2)
		sets(t, `a-c\n[=x=][y*3][:digit:]`+fill+"[y*2]", "abc\nxyyy"+digits+"xyy", 18)
		sets(t, "[y*65536]"+fill, strings.Repeat("y", 65536)+"x", 65536)
		sets(t, "[y*99999]"+fill+"[y*1]", strings.Repeat("y", 65536)+"xy", 65536)
		for _, other := range []string{"[y*]", "[x*0]", "[y*000]", "[**]", `[\n*]`} {
			setsNot(t, fill+other)
			setsNot(t, other+fill)
			setsNot(t, "a"+fill+"b"+other+"c")
			setsNot(t, fill+other+other)
		}
	}
	for _, c := range []struct{ s, want string }{{"[**]", "*"}, {"[[*]", "["}, {"[]*]", "]"}, {"[-*]", "-"}, {"[:*]", ":"}, {"[=*]", "="}, {"[0*]", "0"}, {`[\\*]`, `\`}, {`[\**]`, "*"}, {`[\0*]`, "\x00"}, {"[\xff*]", "\xff"}} {
		sets(t, c.s, c.want, 0)
		sets(t, "ab"+c.s, "ab"+c.want, 2)
	}
}

func TestSetSpans(t *testing.T) {
	for _, c := range []struct{ s, want string }{
		{"a-c", "abc"}, {"a-a", "a"}, {"a-b", "ab"}, {"a-z", lower}, {"A-Z", upper}, {"0-9", digits}, {"a-cx-z", "abcxyz"}, {"a-ca-c", "abcabc"}, {"!-~", graph},
		{"-", "-"}, {"--", "--"}, {"-a", "-a"}, {"a-", "a-"}, {"ab-", "ab-"}, {"-a-", "-a-"}, {"-a-c", "-abc"}, {"a-c-", "abc-"}, {"a-c-e", "abc-e"}, {"a-c-e-g", "abc-efg"}, {"---", "-"}, {"--/", "-./"}, {"+--", "+,-"}, {"----", "--"}, {"---a", "-a"}, {"a-c--", "abc--"},
		{"[a-c]", "[abc]"}, {"[-]", "[\\]"}, {"[-a", "[\\]^_`a"}, {"X-[", "XYZ["}, {"]-a", "]^_`a"}, {"Z-[:digit:]", "Z[:digit:]"}, {"X-[=a=]", "XYZ[=a=]"}, {"Y-[x*3]", "YZ[x*3]"}, {"*-,", "*+,"}, {":-=", ":;<="},
		{`\141-c`, "abc"}, {`a-\143`, "abc"}, {`\141-\143`, "abc"}, {`\60-\71`, digits}, {`\0-\3`, "\x00\x01\x02\x03"}, {`\7-\10`, "\a\b"}, {`\a-\r`, "\a\b\t\n\v\f\r"}, {`\t-\n`, "\t\n"}, {`\\-^`, `\]^`}, {`[-\\`, `[\`}, {`A-\`, upper + `[\`}, {`\q-s`, "qrs"}, {`\--/`, "-./"}, {`+-\-`, "+,-"}, {`\[-\]`, `[\]`}, {`\376-\377`, "\xfe\xff"}, {`\400-\401`, "\x00\x01"}, {`\1411-3`, "a123"}, {`a-\1433`, "abc3"},
		{`a\-c`, "a-c"}, {`\a\-c`, "\a-c"}, {`a\-`, "a-"}, {`\-a`, "-a"}, {`\-`, "-"},
		{"\x7f-\x81", "\x7f\x80\x81"}, {"\xfe-\xff", "\xfe\xff"}, {"\x00-\x02", "\x00\x01\x02"},
	} {
		sets(t, c.s, c.want, -1)
	}
	for _, s := range []string{"b-a", "z-a", "a-A", "9-0", "a--", "a-[", "a-[:digit:]", "a-[=b=]", "xb-a", "b-ax", "a-cb-a", `a-\101`, `\143-a`, `\2-\1`, `\n-\t`, `a-\`, `a-\0`, `\377-\400`, "\xff-\xfe", "\x80-a", "]-[", `]-\[`, "-- ", "a-\n"} {
		setsNot(t, s)
	}
}

// Each byte as the one and the other end.
func TestSetAllSpans(t *testing.T) {
	var all []byte
	for c := range 256 {
		all = append(all, byte(c))
	}
	octal := func(c int) string {
		return "\\" + string([]byte{'0' + byte(c>>6), '0' + byte(c>>3&7), '0' + byte(c&7)})
	}
	for first := range 256 {
		for last := range 256 {
			s := octal(first) + "-" + octal(last)
			if last < first {
				setsNot(t, s)
				continue
			}
			sets(t, s, string(all[first:last+1]), -1)
			if first != '\\' && last != '\\' {
				sets(t, string(all[first:first+1])+"-"+string(all[last:last+1]), string(all[first:last+1]), -1)
			}
		}
	}
}

func TestSetBackslashes(t *testing.T) {
	for _, c := range []struct{ s, want string }{
		{`\0`, "\x00"}, {`\1`, "\x01"}, {`\7`, "\x07"}, {`\00`, "\x00"}, {`\12`, "\n"}, {`\77`, "?"}, {`\000`, "\x00"}, {`\012`, "\n"}, {`\101`, "A"}, {`\177`, "\x7f"}, {`\200`, "\x80"}, {`\377`, "\xff"},
		{`\400`, "\x00"}, {`\401`, "\x01"}, {`\501`, "A"}, {`\777`, "\xff"},
		{`\0000`, "\x000"}, {`\1011`, "A1"}, {`\7777`, "\xff7"}, {`\0123`, "\n3"},
		{`\8`, "8"}, {`\9`, "9"}, {`\18`, "\x018"}, {`\08`, "\x008"}, {`\128`, "\n8"}, {`\81`, "81"}, {`\1a`, "\x01a"}, {`\1\1`, "\x01\x01"}, {`\1\`, "\x01\\"},
		{`\a`, "\x07"}, {`\b`, "\x08"}, {`\f`, "\x0c"}, {`\n`, "\x0a"}, {`\r`, "\x0d"}, {`\t`, "\x09"}, {`\v`, "\x0b"}, {`\\`, `\`},
		{`\\n`, `\n`}, {`\\\n`, "\\\n"}, {`\\\\`, `\\`}, {`\`, `\`}, {`a\`, `a\`}, {`\\\`, `\\`}, {`\aa`, "\aa"}, {`\na\t`, "\na\t"},
		{"\\\n", "\n"}, {"\\\x00", "\x00"}, {"\\\xff", "\xff"}, {"\\\xc3\xa4", "\xc3\xa4"}, {`\ `, " "}, {`\"\'`, `"'`},
	} {
		sets(t, c.s, c.want, -1)
	}
	for c := range 256 {
		if b := string([]byte{byte(c)}); !strings.Contains("01234567abfnrtv", b) {
			sets(t, `\`+b, b, -1)
			sets(t, `x\`+b+"y", "x"+b+"y", -1)
		}
	}
}

func TestSetBytes(t *testing.T) {
	sets(t, "", "", -1)
	for c := range 256 {
		b := string([]byte{byte(c)})
		sets(t, b, b, -1)
		if c != '\\' && c != '-' {
			sets(t, "x"+b+"y", "x"+b+"y", -1)
		}
	}
	for _, s := range []string{"abc", "cab", "aaa", "\x00", "\x80\xff\x00", "\u00e4\u20ac", "a b\tc\n", "]", "]]", ":", "=", "*", "**", "a*3]", "a:]", "^a", "{}", "%s", "[a]", "[abc]", "[[", "[]]", "]["} {
		sets(t, s, s, -1)
	}
}

// Every short text of the signs that mean something, and longer ones by chance, are held against expressions.
func TestSetAgainstAModel(t *testing.T) {
	look := func(s string) { sameAsModel(t, s) }
	eachText("", "[]:*=-\\02a", 5, look)
	eachText("", "[:]a-\\", 6, look)
	c := chanceOf(1)
	mayBe := 0
	for range 60000 {
		if sameAsModel(t, c.set(8)) {
			mayBe++
		}
		sameAsModel(t, c.some(12, "[", "]", ":", "=", "-", "*", "\\", "0", "1", "8", "a", "c", "[:alpha:", "[:digit", ":]", "=]", "*]", "\xe4", "\n"))
	}
	if mayBe < 40000 || mayBe > 59000 {
		t.Errorf("%d strings may be", mayBe)
	}
}

// eachText goes through all texts of signs behind one, with so many more at most.
func eachText(ahead, signs string, most int, look func(s string)) {
	look(ahead)
	if most == 0 {
		return
	}
	for _, c := range signs {
		eachText(ahead+string(c), signs, most-1, look)
	}
}

// sameAsModel tells whether a string may be.
func sameAsModel(t *testing.T, s string) bool {
	t.Helper()
	want, rest, ok := modelSet(s)
	if !ok {
		setsNot(t, s)
		return false
	}
	sets(t, s, want, rest)
	return true
}

// Strings of more than a few bytes, also such as are begun over and over, and not ended.
func TestSetLong(t *testing.T) {
	const n = 1 << 18
	for _, s := range []string{"[", "[:", "[:a", "[=", "[=a", "[x*", "[x*2", ":]", "=]", "ab", "]", "[[", "[:=", "[x*08"} {
		sets(t, strings.Repeat(s, n), strings.Repeat(s, n), -1)
	}
	sets(t, strings.Repeat(`\`, 2*n+1), strings.Repeat(`\`, n+1), -1)
	sets(t, strings.Repeat(":]", n)+strings.Repeat("[:", n), strings.Repeat(":]", n)+strings.Repeat("[:", n), -1)
	sets(t, strings.Repeat("a-c", n), strings.Repeat("abc", n), -1)
	sets(t, strings.Repeat("[:digit:]", n/16), strings.Repeat(digits, n/16), -1)
	sets(t, strings.Repeat("[x*65537]", 100), strings.Repeat("x", 100*65536), -1)
	setsNot(t, strings.Repeat("[:", n)+":]")
	setsNot(t, strings.Repeat("a", n)+"b-a")
	setsNot(t, "[x*"+strings.Repeat("9", n)+"]")
	sets(t, "[x*"+strings.Repeat("0", n)+"]", "x", 0)
}

// R4: what is answered is its owner's, the room behind it too.
func TestSetIsNotShared(t *testing.T) {
	for _, s := range []string{"abc", "a-c", "[:alpha:]", "[x*3]", "[x*]", "[=a=]", "", `\n`, "b-a", "[x*2147483647]"} {
		want, wantRest, _ := modelSet(s)
		first, _, _ := trans.Set(s)
		second, rest, _ := trans.Set(s)
		scribble(first)
		if string(second) != want || rest != wantRest {
			t.Errorf("Set(%q): %.60q, %d, when another answer has changed", s, second, rest)
		}
		if third, rest, _ := trans.Set(s); string(third) != want || rest != wantRest {
			t.Errorf("Set(%q): %.60q, %d, the third time", s, third, rest)
		}
	}
}
