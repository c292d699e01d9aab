package regex_test

import (
	"strconv"
	"strings"
	"testing"

	"toolchest/api"
)

func TestExamples(t *testing.T) {
	basic.reads(t, "ab*", "(<61><62>{0,})")
	extended.reads(t, "(a|[b-d])+$", "((<61>|<62-64>){1,}$)")
	basicFold.reads(t, "a", "<41,61>")
	extendedFold.reads(t, "a", "<41,61>")
	basic.reads(t, "*a", "(<2a><61>)")
	extended.refuses(t, "*a", api.ErrRegex)
	inEveryWay(t, row{"[]a-]", "<2d,5d,61>"}, row{"[z-a]", ""})
}

// P15.2

func TestExtended(t *testing.T) {
	extended.rows(t,
		row{"a", "<61>"},
		row{"ab", "(<61><62>)"},
		row{"abc", "(<61><62><63>)"},
		row{".", anyByte},
		row{"a.b", "(<61><00-ff><62>)"},
		row{"[ab]c", "(<61-62><63>)"},
		row{"a|b", "(<61>|<62>)"},
		row{"a|b|c", "(<61>|<62>|<63>)"},
		row{"ab|c", "((<61><62>)|<63>)"},
		row{"a|bc", "(<61>|(<62><63>))"},
		row{"a|a", "(<61>|<61>)"},
		row{"(a)", "<61>"},
		row{"(ab)", "(<61><62>)"},
		row{"((a))", "<61>"},
		row{"((ab))", "(<61><62>)"},
		row{"(a)b", "(<61><62>)"},
		row{"a(b)", "(<61><62>)"},
		row{"(ab)c", "((<61><62>)<63>)"},
		row{"a(bc)", "(<61>(<62><63>))"},
		row{"(a)(b)", "(<61><62>)"},
		row{"(a|b)", "(<61>|<62>)"},
		row{"(a|b)c", "((<61>|<62>)<63>)"},
		row{"a(b|c)", "(<61>(<62>|<63>))"},
		row{"a|(b|c)", "(<61>|(<62>|<63>))"},
		row{"(a|b)|c", "((<61>|<62>)|<63>)"},
		row{"(a)|(b)", "(<61>|<62>)"},
		row{"(a(b(c)d)e)", "(<61>(<62><63><64>)<65>)"},
		row{"(a|b(c|d)e|f)g|h", "(((<61>|(<62>(<63>|<64>)<65>)|<66>)<67>)|<68>)"},
		row{"]", "<5d>"},
		row{"}", "<7d>"},
		row{"a]", "(<61><5d>)"},
		row{"a}", "(<61><7d>)"},
		row{"}*", "<7d>{0,}"},
		row{",-:=", "(<2c><2d><3a><3d>)"},
		row{"a\nb", "(<61><0a><62>)"},
		row{"\x00", "<00>"},
		row{"\xc3\xa4", "(<c3><a4>)"},
	)
}

func TestExtendedRepetitions(t *testing.T) {
	for _, x := range []struct{ sign, told string }{
		{"*", "{0,}"}, {"+", "{1,}"}, {"?", "{0,1}"},
		{"{0}", "{0,0}"}, {"{1}", "{1,1}"}, {"{3}", "{3,3}"}, {"{255}", "{255,255}"},
		{"{0,}", "{0,}"}, {"{1,}", "{1,}"}, {"{7,}", "{7,}"}, {"{255,}", "{255,}"},
		{"{0,0}", "{0,0}"}, {"{0,1}", "{0,1}"}, {"{2,2}", "{2,2}"}, {"{2,3}", "{2,3}"}, {"{9,10}", "{9,10}"}, {"{0,255}", "{0,255}"}, {"{255,255}", "{255,255}"}, {"{254,255}", "{254,255}"},
		{"{00}", "{0,0}"}, {"{007}", "{7,7}"}, {"{0255}", "{255,255}"}, {"{" + strings.Repeat("0", 1000) + "12}", "{12,12}"}, {"{01,}", "{1,}"}, {"{1,002}", "{1,2}"}, {"{0003,0003}", "{3,3}"}, {"{08,09}", "{8,9}"}, {"{2," + strings.Repeat("0", 1000) + "10}", "{2,10}"},
	} {
		extended.rows(t,
			row{"a" + x.sign, "<61>" + x.told},
			row{"." + x.sign, anyByte + x.told},
			row{"[a-c]" + x.sign, "<61-63>" + x.told},
			row{"(a)" + x.sign, "<61>" + x.told},
			row{"(ab)" + x.sign, "(<61><62>)" + x.told},
			row{"(a|b)" + x.sign, "(<61>|<62>)" + x.told},
			row{"(^)" + x.sign, "^" + x.told},
			row{"($)" + x.sign, "$" + x.told},
			row{"(^$)" + x.sign, "(^$)" + x.told},
			row{`\.` + x.sign, "<2e>" + x.told},
			row{`\\` + x.sign, "<5c>" + x.told},
			row{"}" + x.sign, "<7d>" + x.told},
			row{"ab" + x.sign + "c", "(<61><62>" + x.told + "<63>)"},
			row{"a" + x.sign + "b" + x.sign, "(<61>" + x.told + "<62>" + x.told + ")"},
			row{"a" + x.sign + "|b", "(<61>" + x.told + "|<62>)"},
			row{"a|b" + x.sign, "(<61>|<62>" + x.told + ")"},
			row{"^a" + x.sign + "$", "(^<61>" + x.told + "$)"},
			row{"(a" + x.sign + ")*", "<61>" + x.told + "{0,}"},
			row{"(a*)" + x.sign, "<61>{0,}" + x.told},
			row{"((a" + x.sign + "))b" + x.sign, "(<61>" + x.told + "<62>" + x.told + ")"},
			row{`a\` + x.sign, escapedSign(x.sign)},
			// Behind nothing that may be repeated.
			row{x.sign, ""}, row{x.sign + "a", ""}, row{"(" + x.sign + ")", ""}, row{"(" + x.sign + "a)", ""}, row{"a(" + x.sign + "a)", ""}, row{"|" + x.sign, ""}, row{"a|" + x.sign, ""}, row{"a|" + x.sign + "b", ""}, row{"(a|" + x.sign + "b)", ""},
			row{"^" + x.sign, ""}, row{"^" + x.sign + "a", ""}, row{"a^" + x.sign, ""}, row{"$" + x.sign, ""}, row{"a$" + x.sign, ""}, row{"$" + x.sign + "a", ""}, row{"(^" + x.sign + ")", ""}, row{"(a$" + x.sign + ")", ""}, row{"()" + x.sign, ""},
		)
		for _, other := range []string{"*", "+", "?", "{0}", "{1,}", "{2,3}"} {
			extended.rows(t, row{"a" + x.sign + other, ""}, row{"a" + other + x.sign, ""}, row{"(a)" + x.sign + other, ""}, row{"a" + x.sign + other + x.sign, ""}, row{"(b" + other + x.sign + "c)", ""}, row{"(b" + other + ")" + x.sign, "<62>" + toldTimes(other) + x.told})
		}
	}
}

// escapedSign is how an a and a repetition's sign behind a backslash are told: its first byte stands for itself.
func escapedSign(sign string) string {
	s := "(<61>"
	for _, c := range []byte(sign) {
		s += setOf(oneOf(int(c)))
	}
	return s + ")"
}

func toldTimes(sign string) string {
	return map[string]string{"*": "{0,}", "+": "{1,}", "?": "{0,1}", "{0}": "{0,0}", "{1,}": "{1,}", "{2,3}": "{2,3}"}[sign]
}

func TestExtendedRepetitionsThatAreNone(t *testing.T) {
	for _, sign := range []string{
		"{", "{}", "{,}", "{,1}", "{1", "{1,", "{1,2", "{1,2,}", "{1,2,3}", "{1,,2}", "{1;2}", "{1.2}", "{a}", "{1a}", "{1,a}", "{1,2a}", "{ 1}", "{1 }", "{1, 2}", "{1 ,2}", "{+1}", "{-1}", "{1,-2}", "{1,+2}", "{0x1}", `{1\}`, `{1,\}`, `{1,2\}`, "{\x00}", "{\xff}", "{/}", "{:}", "{1/}", "{1:}", "{1]", "{1)", "{{1}", "{1{}",
		"{256}", "{256,}", "{256,256}", "{0,256}", "{1,256}", "{255,256}", "{257}", "{300}", "{999}", "{1000}", "{65536}", "{65537}", "{4294967296}", "{4294967297}", "{18446744073709551616}", "{18446744073709551617}", "{1,18446744073709551617}", "{1" + strings.Repeat("0", 1000) + "}", "{1," + strings.Repeat("9", 1000) + "}", "{0256}",
		"{1,0}", "{3,2}", "{255,254}", "{10,9}", "{02,1}", "{255,0}",
	} {
		extended.rows(t, row{"a" + sign, ""}, row{"a" + sign + "b", ""}, row{"(a" + sign + ")", ""}, row{"(a)" + sign, ""}, row{sign, ""}, row{"x|a" + sign, ""})
	}
	for n := range 600 {
		s := strconv.Itoa(n)
		want := row{"a{" + s + "}", "<61>{" + s + "," + s + "}"}
		if n > 255 {
			want.want = ""
		}
		extended.rows(t, want)
	}
}

func TestExtendedAnchors(t *testing.T) {
	extended.rows(t,
		row{"^", "^"},
		row{"$", "$"},
		row{"^$", "(^$)"},
		row{"$^", "($^)"},
		row{"^^", "(^^)"},
		row{"$$", "($$)"},
		row{"^a$", "(^<61>$)"},
		row{"a^b", "(<61>^<62>)"},
		row{"a$b", "(<61>$<62>)"},
		row{"a^", "(<61>^)"},
		row{"$a", "($<61>)"},
		row{"(^a)", "(^<61>)"},
		row{"(^)", "^"},
		row{"a|^", "(<61>|^)"},
		row{"^|$", "(^|$)"},
		row{"(^|a)b($|c)", "((^|<61>)<62>($|<63>))"},
		row{"a*^", "(<61>{0,}^)"},
		row{"a*$b", "(<61>{0,}$<62>)"},
		row{`\^`, "<5e>"},
		row{`\$`, "<24>"},
		row{`\^*`, "<5e>{0,}"},
		row{"^(a)*", "(^<61>{0,})"},
	)
}

func TestExtendedEmptyOnes(t *testing.T) {
	for _, s := range []string{"", "|", "||", "a|", "|a", "a||b", "a|b|", "|a|b", "()", "(())", "()a", "a()", "(|)", "(|a)", "(a|)", "(a||b)", "a|()", "()|a", "(a)()", "((a)|)", "(|(a))", "a()b", "^|", "|$", "()()", "()*"} {
		extended.refuses(t, s, api.ErrRegex)
		extendedFold.refuses(t, s, api.ErrRegex)
	}
}

func TestExtendedParentheses(t *testing.T) {
	for _, s := range []string{"(", "((", "(a", "((a)", "a(", "a(b", "(a|", "(a|b", "(a)(", "(a)(b", ")", "))", "a)", ")a", "(a))", "a)b", ")(", "a)(b", "(a))(b", "|)", "a|)", "a|b)", "(()", "())", `(\)`, `(a\)`, "([)]", "([)", "(a*", "(^", "($"} {
		extended.refuses(t, s, api.ErrRegex)
	}
	extended.rows(t, row{`\(a\)`, "(<28><61><29>)"}, row{`\(`, "<28>"}, row{`\)`, "<29>"}, row{`(\()`, "<28>"}, row{`(\))`, "<29>"}, row{"([)])", "<29>"}, row{"([(])", "<28>"}, row{`\\(a)`, "(<5c><61>)"})
}

// A byte that is special stands for itself behind a backslash, and any other byte that is neither a letter nor a digit.
func TestExtendedBackslashes(t *testing.T) {
	for c := range 256 {
		b := oneOf(c)
		want := row{`\` + b, setOf(b)}
		if strings.Contains(letters+digits, b) {
			want.want = ""
		}
		extended.rows(t, want)
		want.s = "(" + want.s + ")"
		extended.rows(t, want)
		if want.want != "" {
			want.want = "(<61>" + want.want + "{2,2}<62>)"
		}
		extended.rows(t, row{`a\` + b + `{2}b`, want.want}, row{`a\\\` + b + `{2}b`, strings.Replace(want.want, "<61>", "<61><5c>", 1)})
	}
	for _, s := range []string{`\`, `a\`, `a|\`, `(a)\`, `\\\`, `(\`, `a*\`, `[a]\`, `^\`} {
		extended.refuses(t, s, api.ErrRegex)
	}
	extended.rows(t, row{`\\`, "<5c>"}, row{`\\\\`, "(<5c><5c>)"}, row{`\\a`, "(<5c><61>)"}, row{`\\n`, "(<5c><6e>)"}, row{`\\\n`, ""}, row{`\{1\}`, "(<7b><31><7d>)"}, row{`a\{1}`, "(<61><7b><31><7d>)"}, row{`\/`, "<2f>"}, row{"\\\n", "<0a>"}, row{`\-`, "<2d>"}, row{`(a)\1`, ""}, row{`\<a\>`, "(<3c><61><3e>)"})
}

// Each byte alone, and within others.
func TestExtendedBytes(t *testing.T) {
	for c := range 256 {
		b := oneOf(c)
		one, within := setOf(b), "(<78>"+setOf(b)+"<79>)"
		switch b {
		case ".":
			one, within = anyByte, "(<78><00-ff><79>)"
		case "^":
			one, within = "^", "(<78>^<79>)"
		case "$":
			one, within = "$", "(<78>$<79>)"
		case "*":
			one, within = "", "(<78>{0,}<79>)"
		case "+":
			one, within = "", "(<78>{1,}<79>)"
		case "?":
			one, within = "", "(<78>{0,1}<79>)"
		case "|":
			one, within = "", "(<78>|<79>)"
		case "{", "(", ")", "[":
			one, within = "", ""
		case `\`:
			one, within = "", "" // ahead of a letter
		}
		extended.rows(t, row{b, one}, row{"x" + b + "y", within})
	}
}

func TestExtendedFold(t *testing.T) {
	extendedFold.rows(t,
		row{"A", "<41,61>"},
		row{"aB1", "(<41,61><42,62><31>)"},
		row{"(a|B)*", "(<41,61>|<42,62>){0,}"},
		row{"z{2}", "<5a,7a>{2,2}"},
		row{"[a-c]x", "(<41-43,61-63><58,78>)"},
		row{"[^x]", otherThan("xX")},
		row{".", anyByte},
		row{`\.`, "<2e>"},
		row{"^a$", "(^<41,61>$)"},
		row{"a**", ""},
		row{`\a`, ""},
	)
	for c := range 256 {
		if b := oneOf(c); !strings.Contains(`.^$*+?|{()[\`, b) {
			extendedFold.reads(t, b, setOf(both(b)))
		} else {
			extendedFold.reads(t, `\`+b, setOf(b))
		}
	}
}
