package regex_test

import (
	"strings"
	"testing"

	"toolchest/api"
)

// P15.1

// row is a text, and how it is told; without that it may not be.
type row struct{ s, want string }

// inEveryWay fails, if rows are read otherwise, by any rules without fold.
func inEveryWay(t *testing.T, rows ...row) {
	t.Helper()
	for _, h := range []how{basic, extended} {
		h.rows(t, rows...)
	}
}

func (h how) rows(t *testing.T, rows ...row) {
	t.Helper()
	for _, x := range rows {
		if x.want == "" {
			h.refuses(t, x.s, api.ErrRegex)
		} else {
			h.reads(t, x.s, x.want)
		}
	}
}

func TestBrackets(t *testing.T) {
	inEveryWay(t,
		row{"[a]", "<61>"},
		row{"[ab]", "<61-62>"},
		row{"[ba]", "<61-62>"},
		row{"[ac]", "<61,63>"},
		row{"[aaa]", "<61>"},
		row{"[a]b", "(<61><62>)"},
		row{"[a][b]", "(<61><62>)"},
		row{"x[a]", "(<78><61>)"},
		row{"[.]", "<2e>"},
		row{"[*]", "<2a>"},
		row{"[$]", "<24>"},
		row{"[|]", "<7c>"},
		row{"[()]", "<28-29>"},
		row{"[{}]", "<7b,7d>"},
		row{"[+?]", "<2b,3f>"},
		row{"[\n]", "<0a>"},
		row{"[\x00]", "<00>"},
		row{"[\xff]", "<ff>"},
		row{"[\xc3\xa4]", "<a4,c3>"},
		row{"[ ]", "<20>"},
		row{"[a]]", "(<61><5d>)"},
		row{"[[]", "<5b>"},
		row{"[[]]", "(<5b><5d>)"},
		row{"[[a]", "<5b,61>"},
		row{"[a[]", "<5b,61>"},
		row{"[[[]", "<5b>"},
	)
}

func TestTurnedBrackets(t *testing.T) {
	inEveryWay(t,
		row{"[^a]", "<00-60,62-ff>"},
		row{"[^ab]", "<00-60,63-ff>"},
		row{"[^\x00]", "<01-ff>"},
		row{"[^\xff]", "<00-fe>"},
		row{"[^\x00\xff]", "<01-fe>"},
		row{"[^^]", "<00-5d,5f-ff>"},
		row{"[^^^]", "<00-5d,5f-ff>"},
		row{"[^-]", "<00-2c,2e-ff>"},
		row{"[a^]", "<5e,61>"},
		row{"[a^b]", "<5e,61-62>"},
		row{"[-^]", "<2d,5e>"},
		row{"[]^]", "<5d-5e>"},
		row{"[^]^]", "<00-5c,5f-ff>"},
		row{"[\x00-\xff]", anyByte},
		row{"[^\x00-\xff]", "<>"}, // none is left: a set yet
		row{"[^\x00-\xfe]", "<ff>"},
		row{"[^\x01-\xff]", "<00>"},
		row{"[^[:alpha:]]", otherThan(letters)},
		row{"a[^\x00-\xff]", "(<61><>)"},
		row{"[^-a]", otherThan("-a")},
		row{"[^a-]", otherThan("-a")},
		row{"[^a-c]", "<00-60,64-ff>"},
	)
}

// `]` is a byte as the first part alone.
func TestBracketsWithTheirEnd(t *testing.T) {
	inEveryWay(t,
		row{"[]]", "<5d>"},
		row{"[]a]", "<5d,61>"},
		row{"[]a-]", "<2d,5d,61>"},
		row{"[]]]", "(<5d><5d>)"},
		row{"[]]a]", "(<5d><61><5d>)"},
		row{"[a]]", "(<61><5d>)"},
		row{"[^]]", "<00-5c,5e-ff>"},
		row{"[^]a]", otherThan("]a")},
		row{"[^]]]", "(<00-5c,5e-ff><5d>)"},
		row{"[]-a]", "<5d-61>"}, // a range from it on
		row{"[^]-a]", "<00-5c,62-ff>"},
		row{"[]-]", "<2d,5d>"},
		row{"[]-]]", "(<2d,5d><5d>)"},
		row{"[][]", "<5b,5d>"},
		row{"[[.].]]", "<5d>"},
		row{"[a[.].]]", "<5d,61>"},
		row{"[a[=]=]]", "<5d,61>"},
		row{"[A-[.].]]", "<41-5d>"},
		row{"[[.].]-a]", "<5d-61>"},
		row{"[A-[.].]]]", "(<41-5d><5d>)"},
		row{"[]-[.].]]", "<5d>"},
		row{"[]-Z]", ""},
	)
}

func TestBracketsThatAreNotEnded(t *testing.T) {
	inEveryWay(t,
		row{"[", ""}, row{"[^", ""}, row{"[]", ""}, row{"[^]", ""}, row{"[a", ""}, row{"[^a", ""}, row{"[a-", ""}, row{"[a-c", ""}, row{"[]a", ""}, row{"[-", ""}, row{"[--", ""}, row{"[---", ""},
		row{"[[", ""}, row{"[[:", ""}, row{"[[:alpha", ""}, row{"[[:alpha:", ""}, row{"[[:alpha:]", ""}, row{"[[:alpha:]a", ""},
		row{"[[.", ""}, row{"[[.a", ""}, row{"[[.a.", ""}, row{"[[.a.]", ""}, row{"[[.a.]-", ""}, row{"[[.a.]-z", ""}, row{"[a-[.z.]", ""}, row{"[a-[.", ""}, row{"[A-[.", ""}, row{"[A-[", ""},
		row{"[[=", ""}, row{"[[=a", ""}, row{"[[=a=", ""}, row{"[[=a=]", ""}, row{"x[", ""}, row{"x[a", ""}, row{"[a][", ""}, row{"[a][b", ""}, row{"[^][", ""},
	)
	// A backslash keeps no bracket from its end, nor from its beginning.
	inEveryWay(t, row{`[\]`, "<5c>"}, row{`[\]]`, "(<5c><5d>)"}, row{`[\`, ""}, row{`[a\]b]`, "(<5c,61><62><5d>)"}, row{`\[a]`, "(<5b><61><5d>)"}, row{`\[`, "<5b>"}, row{`\\[`, ""})
}

// A backslash is a byte as any other one.
func TestBackslashesInBrackets(t *testing.T) {
	inEveryWay(t,
		row{`[\n]`, "<5c,6e>"}, row{`[\\]`, "<5c>"}, row{`[\-a]`, "<5c-61>"}, row{`[\a-c]`, "<5c,61-63>"}, row{`[a\-]`, "<2d,5c,61>"}, row{`[\^a]`, "<5c,5e,61>"}, row{`[Z-\]`, "<5a-5c>"}, row{`[\-\]`, "<5c>"}, row{`[a-\]`, ""}, row{`[\.]`, "<2e,5c>"}, row{`[^\]`, otherThan(`\`)}, row{`[\]*`, "<5c>{0,}"}, row{`[\(\)]`, "<28-29,5c>"}, row{`[\1]`, "<31,5c>"},
	)
}

func TestRanges(t *testing.T) {
	inEveryWay(t,
		row{"[a-c]", "<61-63>"},
		row{"[a-a]", "<61>"},
		row{"[a-b]", "<61-62>"},
		row{"[a-z]", "<61-7a>"},
		row{"[z-a]", ""},
		row{"[b-a]", ""},
		row{"[xb-a]", ""},
		row{"[b-ax]", ""},
		row{"[^b-a]", ""},
		row{"[a-cx-z]", "<61-63,78-7a>"},
		row{"[x-za-c]", "<61-63,78-7a>"},
		row{"[a-cb-e]", "<61-65>"},
		row{"[a-cd-f]", "<61-66>"},
		row{"[0-9a-fA-F]", "<30-39,41-46,61-66>"},
		row{"[\x00-\x7f]", "<00-7f>"},
		row{"[\x80-\xff]", "<80-ff>"},
		row{"[\x7f-\x80]", "<7f-80>"},
		row{"[\x80-\x7f]", ""},
		row{"[\xff-\x00]", ""},
		row{"[\x00-\x00]", "<00>"},
		row{"[\xff-\xff]", "<ff>"},
		row{"[!-~]", "<21-7e>"},
		row{"[ --]", "<20-2d>"},
		row{"[*-+]", "<2a-2b>"},
		row{"[:-=]", "<3a-3d>"},
		row{"[^-a]x", "(" + otherThan("-a") + "<78>)"}, // what is turned is no end
		row{"[a-^]", ""},
		row{"[A-^]", "<41-5e>"},
		row{"[[-a]", "<5b-61>"},
		row{"[A-[]", "<41-5b>"},
		row{"[[-[]", "<5b>"},
		row{"[a-[]", ""},
		row{"[[-Z]", ""},
	)
}

func TestMinusInBrackets(t *testing.T) {
	inEveryWay(t,
		row{"[-]", "<2d>"},
		row{"[--]", "<2d>"},
		row{"[---]", "<2d>"},
		row{"[----]", "<2d>"},
		row{"[-a]", "<2d,61>"},
		row{"[a-]", "<2d,61>"},
		row{"[-a-]", "<2d,61>"},
		row{"[-a-c]", "<2d,61-63>"},
		row{"[a-c-]", "<2d,61-63>"},
		row{"[a-c-e]", "<2d,61-63,65>"},
		row{"[a-c-e-g]", "<2d,61-63,65-67>"},
		row{"[--0]", "<2d-30>"},
		row{"[%--]", "<25-2d>"},
		row{"[a--]", ""},
		row{"[--+]", ""},
		row{"[a-c--]", "<2d,61-63>"},
		row{"[+--/]", "<2b-2d,2f>"},
		row{"[---/]", "<2d,2f>"},
		row{"[a-]]", "(<2d,61><5d>)"},
		row{"[^--/]", otherThan("-./")},
		row{"[[:digit:]-z]", setOf(digits + "-z")},
		row{"[a-c[:digit:]-]", setOf(digits + "-abc")},
		row{"[-[:digit:]]", setOf(digits + "-")},
		row{"[--[:digit:]]", "(<2d-5b,64,67,69,74><5d>)"}, // the end of a range is a byte, here `[`
	)
}

// A range with every pair of bytes, each as a byte and as `[.`c`.]`.
func TestEveryRange(t *testing.T) {
	for first := range 256 {
		for last := range 256 {
			a, b := oneOf(first), oneOf(last)
			var has [256]bool
			for c := first; c <= last; c++ {
				has[c] = true
			}
			want := row{want: toldSet(has)}
			if last < first {
				want.want = ""
			}
			h := []how{basic, extended}[(first+last)%2]
			for _, s := range []string{"[.a.]-[.b.]", "[.a.]-b", "a-[.b.]", "a-b"} {
				// One that turns the bracket, and one that ends it, are no ends of a range.
				if strings.HasPrefix(s, "a") && a == "^" || strings.HasSuffix(s, "b") && b == "]" {
					continue
				}
				want.s = "[" + strings.NewReplacer("a", a, "b", b).Replace(s) + "]"
				h.rows(t, want)
			}
		}
	}
}

func TestEnds(t *testing.T) {
	inEveryWay(t,
		row{"[[.a.]]", "<61>"},
		row{"[[.a.][.c.]]", "<61,63>"},
		row{"[x[.a.]y]", "<61,78-79>"},
		row{"[[.a.]-c]", "<61-63>"},
		row{"[a-[.c.]]", "<61-63>"},
		row{"[[.a.]-[.c.]]", "<61-63>"},
		row{"[[.c.]-a]", ""},
		row{"[c-[.a.]]", ""},
		row{"[[.c.]-[.a.]]", ""},
		row{"[[.a.]-[.a.]]", "<61>"},
		row{"[[.-.]]", "<2d>"},
		row{"[[.-.]-/]", "<2d-2f>"},
		row{"[+-[.-.]]", "<2b-2d>"},
		row{"[a[.-.]c]", "<2d,61,63>"},
		row{"[[.a.]-]", "<2d,61>"},
		row{"[[.a.]-]]", "(<2d,61><5d>)"},
		row{"[[.a.]--]", ""},
		row{"[[.%.]--]", "<25-2d>"},
		row{"[-[.a.]]", "<2d,61>"},
		row{"[--[.0.]]", "<2d-30>"},
		row{"[[...]]", "<2e>"},
		row{"[[.[.]]", "<5b>"},
		row{"[[.^.]]", "<5e>"},
		row{"[[.^.]a]", "<5e,61>"},
		row{"[^[.^.]]", otherThan("^")},
		row{"[[.\\.]]", "<5c>"},
		row{"[[.\n.]]", "<0a>"},
		row{"[[.\x00.]-[.\xff.]]", anyByte},
		row{"[[.a.]-c-e]", "<2d,61-63,65>"},
		row{"[[.a.]-[.c.]-e]", "<2d,61-63,65>"},
		row{"[[.a.]x-z]", "<61,78-7a>"},
		row{"[[=a=]]", "<61>"},
		row{"[[===]]", "<3d>"},
		row{"[[=]=]]", "<5d>"},
		row{"[[=[=]]", "<5b>"},
		row{"[[=-=]]", "<2d>"},
		row{"[[=^=]]", "<5e>"},
		row{"[[=a=][=c=]]", "<61,63>"},
		row{"[^[=a=]]", otherThan("a")},
		row{"[x[=a=]-]", "<2d,61,78>"},
	)
	for c := range 256 {
		b := oneOf(c)
		inEveryWay(t, row{"[[." + b + ".]]", setOf(b)}, row{"[[=" + b + "=]]", setOf(b)}, row{"[^[." + b + ".]]", otherThan(b)}, row{"[^[=" + b + "=]]", otherThan(b)})
	}
}

// `[=`c`=]` is no end of a range: ahead of a `-` it is a part of its own, and behind one `[` is the end.
func TestEqualsBesideMinus(t *testing.T) {
	inEveryWay(t,
		row{"[[=a=]-c]", "<2d,61,63>"},
		row{"[[=c=]-a]", "<2d,61,63>"},
		row{"[A-[=a=]]", "(<3d,41-5b,61><5d>)"},
		row{"[a-[=c=]]", ""},
		row{"[[=a=]-[=c=]]", "<2d,61,63>"},
		row{"[[=a=]-[.c.]]", "<2d,61,63>"},
		row{"[[=a=]--]", "<2d,61>"},
		row{"[[=a=]--/]", "<2d-2f,61>"},
		row{"[[.A.]-[=a=]]", "(<3d,41-5b,61><5d>)"},
	)
}

// A `[` that begins none of the parts is a byte.
func TestPartsThatAreNone(t *testing.T) {
	inEveryWay(t,
		row{"[[.]", "<2e,5b>"},
		row{"[[..]", "<2e,5b>"},
		row{"[[.a]", "<2e,5b,61>"},
		row{"[[.ab.]]", "(<2e,5b,61-62><5d>)"},
		row{"[[..]]", "(<2e,5b><5d>)"},
		row{"[[.a. ]]", "(<20,2e,5b,61><5d>)"},
		row{"[[.a=]]", "(<2e,3d,5b,61><5d>)"},
		row{"[[=a.]]", "(<2e,3d,5b,61><5d>)"},
		row{"[[=]", "<3d,5b>"},
		row{"[[==]", "<3d,5b>"},
		row{"[[==]]", "(<3d,5b><5d>)"},
		row{"[[=a]", "<3d,5b,61>"},
		row{"[[=ab=]]", "(<3d,5b,61-62><5d>)"},
		row{"[[ =a=]]", "(<20,3d,5b,61><5d>)"},
		row{"[[.\xc3\xa4.]]", "(<2e,5b,a4,c3><5d>)"},
		row{"[[:]", "<3a,5b>"},
		row{"[[:a]", "<3a,5b,61>"},
		row{"[[:alpha]", setOf("[:alph")},
		row{"[[:alpha]]", "(" + setOf("[:alph") + "<5d>)"},
		row{"[[:alpha: ]]", "(" + setOf("[:alph ") + "<5d>)"},
		row{"[[ :alpha:]]", "(" + setOf("[:alph ") + "<5d>)"},
		row{"[[:-a]", "<3a-61>"}, // `[`, and a range from `:` on
		row{"[[.-a]", "<2e-61>"},
		row{"[[=-a]", "<3d-61>"},
		row{"[A-[.a]", "<2e,41-5b,61>"},
		row{"[A-[:a]", "<3a,41-5b,61>"},
		row{"[A-[.ab.]]", "(<2e,41-5b,61-62><5d>)"},
		row{"[:alpha:]", setOf(":alph")},
		row{"[.a.]", "<2e,61>"},
		row{"[=a=]", "<3d,61>"},
		row{"[:-:]", "<3a>"},
		row{"[=-=]", "<3d>"},
		row{"[[x:alpha:]", setOf("[x:alph")},
		row{"[[:[:[: ]", "<20,3a,5b>"},
	)
}

// classes are all of them, with their bytes.
func classes() map[string]string {
	const graph = "!\"#$%&'()*+,-./0123456789:;<=>?@ABCDEFGHIJKLMNOPQRSTUVWXYZ[\\]^_`abcdefghijklmnopqrstuvwxyz{|}~"
	return map[string]string{
		"alpha":  letters,
		"digit":  digits,
		"alnum":  digits + letters,
		"upper":  upper,
		"lower":  lower,
		"blank":  "\t ",
		"space":  "\t\n\v\f\r ",
		"cntrl":  "\x00\x01\x02\x03\x04\x05\x06\x07\x08\x09\x0a\x0b\x0c\x0d\x0e\x0f\x10\x11\x12\x13\x14\x15\x16\x17\x18\x19\x1a\x1b\x1c\x1d\x1e\x1f\x7f",
		"print":  " " + graph,
		"graph":  graph,
		"punct":  "!\"#$%&'()*+,-./:;<=>?@[\\]^_`{|}~",
		"xdigit": digits + "ABCDEFabcdef",
	}
}

func TestClasses(t *testing.T) {
	for word, l := range classes() {
		class := "[:" + word + ":]"
		inEveryWay(t,
			row{"[" + class + "]", setOf(l)},
			row{"[^" + class + "]", otherThan(l)},
			row{"[" + class + class + "]", setOf(l)},
			row{"[\xe4" + class + "]", setOf(l + "\xe4")},
			row{"[" + class + "\xe4-\xe6]", setOf(l + "\xe4\xe5\xe6")},
			row{"[]" + class + "]", setOf(l + "]")},
			row{"[" + class + "-]", setOf(l + "-")},
			row{"[" + class + "-\xff]", setOf(l + "-\xff")}, // it is no end of a range
			row{"[" + class + "]]", "(" + setOf(l) + "<5d>)"},
			row{"[" + word + "]", setOf(word)},
		)
		for other, more := range classes() {
			inEveryWay(t, row{"[" + class + "[:" + other + ":]]", setOf(l + more)}, row{"[^" + class + "x[:" + other + ":]]", otherThan(l + more + "x")})
		}
		for _, none := range []string{strings.ToUpper(word), " " + word, word + " ", word + word, word[1:], word[:len(word)-1], ":" + word, word + ":", `\` + word, "^" + word, "[:" + word, "=" + word + "="} {
			if none != "digit" { // the end of xdigit
				inEveryWay(t, row{"[[:" + none + ":]]", ""})
			}
		}
	}
}

// A word that is none of these may not be, whatever stands between `[:` and the next `:]`.
func TestWordsThatAreNone(t *testing.T) {
	for _, s := range []string{
		"[[::]]", "[[:::]]", "[[:a:]]", "[[:word:]]", "[[:ascii:]]", "[[:ALPHA:]]", "[[:\x00:]]", "[[:\xff:]]", "[[:alpha]:]]", "[[:]:]]", "[[:[:]:]]", "[x[:foo:]]", "[[:alpha:][:foo:]]", "[[:foo:][:alpha:]]", "[[:x[:alpha:]]", "[^[:foo:]]", "[[:foo:]", "[[:]x[a:]", "[[:]b]*[[:alpha:]]", "[[:a-z:]]", "[[:\n:]]", "[[.a.][:foo:]]", "[[:alph:]]", "[[:alphaa:]]",
	} {
		inEveryWay(t, row{s, ""})
	}
	// Behind a bracket that has ended, and as a range's end, it is no part.
	inEveryWay(t, row{"[x][:y:]", "(<78><3a,79>)"}, row{"[A-[:y:]", "<3a,41-5b,79>"}, row{"[A-[:y:]]", "(<3a,41-5b,79><5d>)"})
}

// A class's end is looked for in all that is left, but not more often than need be.
func TestManyBeginningsOfClasses(t *testing.T) {
	many := strings.Repeat("[:", 1<<20)
	inEveryWay(t, row{"[" + many + " ]", "<20,3a,5b>"}, row{"[" + many + "]", ""}, row{"[" + many + ":]]", ""}, row{"[" + many, ""}, row{"[" + strings.Repeat("[:digit:]", 1<<15) + "]", "<30-39>"})
	inEveryWay(t, row{"[[:digit:][:digit]", setOf(digits + "[:digt")}, row{"[[:digit][[:digit:]]", ""})
}

func TestFoldedBrackets(t *testing.T) {
	for _, h := range []how{basicFold, extendedFold} {
		h.rows(t,
			row{"[a]", "<41,61>"},
			row{"[A]", "<41,61>"},
			row{"[z]", "<5a,7a>"},
			row{"[Z]", "<5a,7a>"},
			row{"[aB]", "<41-42,61-62>"},
			row{"[a-c]", "<41-43,61-63>"},
			row{"[A-C]", "<41-43,61-63>"},
			row{"[b-B]", ""},
			row{"[z-a]", ""},
			row{"[Y-b]", "<41-42,59-62,79-7a>"},
			row{"[1]", "<31>"},
			row{"[@]", "<40>"},
			row{"[[]", "<5b>"},
			row{"[`]", "<60>"},
			row{"[{]", "<7b>"},
			row{"[@[`{]", "<40,5b,60,7b>"},
			row{"[\xe4]", "<e4>"},
			row{"[\xc4]", "<c4>"},
			row{"[\x01\x21]", "<01,21>"},
			row{"[\xc1\xe1]", "<c1,e1>"},
			row{"[^a]", otherThan("aA")},
			row{"[^A]", otherThan("aA")},
			row{"[^a-z]", otherThan(letters)},
			row{"[^0]", otherThan("0")},
			row{"[^\xe4]", otherThan("\xe4")},
			row{"[[:upper:]]", setOf(letters)},
			row{"[[:lower:]]", setOf(letters)},
			row{"[^[:upper:]]", otherThan(letters)},
			row{"[[:alpha:]]", setOf(letters)},
			row{"[[:digit:]]", setOf(digits)},
			row{"[[:xdigit:]]", setOf(digits + "ABCDEFabcdef")},
			row{"[[:cntrl:]]", setOf(classes()["cntrl"])},
			row{"[[=a=]]", "<41,61>"},
			row{"[[.q.]]", "<51,71>"},
			row{"[[.a.]-[.c.]]", "<41-43,61-63>"},
			row{"[\x00-\xff]", anyByte},
			row{"[^\x00-\xff]", "<>"},
			row{"[^A-Z\x00-@[-\xff]", "<>"}, // all but the small letters, and these by their great ones
			row{"[^A-Z\x00-@[-`{-\xff]", "<>"},
		)
		for c := range 256 {
			b := oneOf(c)
			h.rows(t, row{"[[." + b + ".]]", setOf(both(b))}, row{"[^[=" + b + "=]]", otherThan(both(b))}, row{"[" + b + "-" + b + "x]", foldedRange(b)})
		}
	}
}

// foldedRange is how a range from a byte to itself and an x are told, with fold.
func foldedRange(b string) string {
	switch b {
	case "]":
		return "(<2d,5d><58,78><5d>)"
	case "^":
		return otherThan("-^xX")
	}
	return setOf(both(b) + "xX")
}
