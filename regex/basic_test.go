package regex_test

import (
	"strings"
	"testing"

	"toolchest/api"
)

// P15.3

func TestBasic(t *testing.T) {
	basic.rows(t,
		row{"", "()"},
		row{"a", "<61>"},
		row{"ab", "(<61><62>)"},
		row{".", anyByte},
		row{"a.b", "(<61><00-ff><62>)"},
		row{"[ab]c", "(<61-62><63>)"},
		row{`\(a\)`, "<61>"},
		row{`\(ab\)`, "(<61><62>)"},
		row{`\(\(a\)\)`, "<61>"},
		row{`\(a\)b`, "(<61><62>)"},
		row{`\(ab\)c`, "((<61><62>)<63>)"},
		row{`a\(bc\)`, "(<61>(<62><63>))"},
		row{`\(a\(b\(c\)d\)e\)`, "(<61>(<62><63><64>)<65>)"},
		row{`\(\)`, "()"},
		row{`\(\(\)\)`, "()"},
		row{`\(\)\(\)`, "(()())"},
		row{`a\(\)`, "(<61>())"},
		row{`\(\)a`, "(()<61>)"},
		row{`\(\)*`, "(){0,}"},
		row{`\(\)\{3\}`, "(){3,3}"},
		row{`\(\(\)*\)*`, "(){0,}{0,}"},
		row{"a\nb", "(<61><0a><62>)"},
		row{"\x00\xff", "(<00><ff>)"},
		row{"]", "<5d>"},
	)
}

// Bytes that are special in extended ones alone.
func TestBasicBytesOfExtendedOnes(t *testing.T) {
	basic.rows(t,
		row{"+", "<2b>"}, row{"?", "<3f>"}, row{"{", "<7b>"}, row{"}", "<7d>"}, row{"|", "<7c>"}, row{"(", "<28>"}, row{")", "<29>"},
		row{"a+", "(<61><2b>)"}, row{"a?", "(<61><3f>)"}, row{"a|b", "(<61><7c><62>)"}, row{"(a)", "(<28><61><29>)"}, row{"a{2}", "(<61><7b><32><7d>)"}, row{"a{3,2}", "(<61><7b><33><2c><32><7d>)"}, row{"()", "(<28><29>)"}, row{"+*", "<2b>{0,}"}, row{"(*", "<28>{0,}"}, row{"|*", "<7c>{0,}"}, row{"a**", ""}, row{"a*+", "(<61>{0,}<2b>)"}, row{`a\{2\}?`, "(<61>{2,2}<3f>)"}, row{"(^a", "(<28><5e><61>)"}, row{"a$)", "(<61><24><29>)"}, row{"a|^b", "(<61><7c><5e><62>)"}, row{"a$|b", "(<61><24><7c><62>)"},
		row{`\+`, "<2b>"}, row{`\?`, "<3f>"}, row{`\|`, "<7c>"}, row{`a\|b`, "(<61><7c><62>)"}, row{`a\+`, "(<61><2b>)"}, row{`a\+*`, "(<61><2b>{0,})"},
	)
}

func TestBasicRepetitions(t *testing.T) {
	for _, x := range []struct{ sign, told string }{
		{"*", "{0,}"},
		{`\{0\}`, "{0,0}"}, {`\{1\}`, "{1,1}"}, {`\{3\}`, "{3,3}"}, {`\{255\}`, "{255,255}"},
		{`\{0,\}`, "{0,}"}, {`\{1,\}`, "{1,}"}, {`\{255,\}`, "{255,}"},
		{`\{0,0\}`, "{0,0}"}, {`\{0,1\}`, "{0,1}"}, {`\{2,3\}`, "{2,3}"}, {`\{9,10\}`, "{9,10}"}, {`\{0,255\}`, "{0,255}"}, {`\{255,255\}`, "{255,255}"},
		{`\{007\}`, "{7,7}"}, {`\{0255,\}`, "{255,}"}, {`\{1,002\}`, "{1,2}"}, {`\{` + strings.Repeat("0", 1000) + `12\}`, "{12,12}"},
	} {
		basic.rows(t,
			row{"a" + x.sign, "<61>" + x.told},
			row{"." + x.sign, anyByte + x.told},
			row{"[a-c]" + x.sign, "<61-63>" + x.told},
			row{`\(a\)` + x.sign, "<61>" + x.told},
			row{`\(ab\)` + x.sign, "(<61><62>)" + x.told},
			row{`\(^\)` + x.sign, "^" + x.told},
			row{`\($\)` + x.sign, "$" + x.told},
			row{`\(\)` + x.sign, "()" + x.told},
			row{`\.` + x.sign, "<2e>" + x.told},
			row{`\*` + x.sign, "<2a>" + x.told},
			row{"*" + x.sign, "<2a>" + x.told},
			row{"^*" + x.sign, "(^<2a>" + x.told + ")"},
			row{`\(*` + x.sign + `\)`, "<2a>" + x.told},
			row{"a^" + x.sign, "(<61><5e>" + x.told + ")"},
			row{"^^" + x.sign, "(^<5e>" + x.told + ")"},
			row{"$" + x.sign, "<24>" + x.told},
			row{"a$" + x.sign, "(<61><24>" + x.told + ")"},
			row{"ab" + x.sign + "c", "(<61><62>" + x.told + "<63>)"},
			row{"^a" + x.sign + "$", "(^<61>" + x.told + "$)"},
			row{`\(a` + x.sign + `\)*`, "<61>" + x.told + "{0,}"},
			row{`\(a*\)` + x.sign, "<61>{0,}" + x.told},
		)
		for _, other := range []string{"*", `\{0\}`, `\{1,\}`, `\{2,3\}`} {
			basic.rows(t, row{"a" + x.sign + other, ""}, row{"a" + other + x.sign, ""}, row{`\(a\)` + x.sign + other, ""}, row{"*" + other + x.sign, ""}, row{`\(b` + other + x.sign + `\)`, ""}, row{"$" + other + x.sign, ""})
		}
		if x.sign == "*" {
			continue
		}
		// Behind nothing that may be repeated.
		for _, ahead := range []string{"", "^", `\(`, `a\(`, `\(^`, `\(\(`, `\(a\)\(^`} {
			end := strings.Repeat(`\)`, strings.Count(ahead, `\(`)-strings.Count(ahead, `\)`))
			basic.rows(t, row{ahead + x.sign + end, ""}, row{ahead + x.sign + "a" + end, ""})
		}
	}
}

func TestBasicRepetitionsThatAreNone(t *testing.T) {
	for _, sign := range []string{
		`\{`, `\{\}`, `\{,\}`, `\{,1\}`, `\{1`, `\{1,`, `\{1,2`, `\{1\`, `\{1,\`, `\{1,2\`, `\{1}`, `\{1,}`, `\{1,2}`, `\{1,2,\}`, `\{1,2,3\}`, `\{1,,2\}`, `\{a\}`, `\{1a\}`, `\{1,a\}`, `\{ 1\}`, `\{1 \}`, `\{1, 2\}`, `\{+1\}`, `\{-1\}`, `\{1\\}`, `\{1\,2\}`, "\\{\xff\\}", `\{1\)`, `\{1\{`, `\{1\]`, `\}`, `1\}`, `{1\}`,
		`\{256\}`, `\{256,\}`, `\{0,256\}`, `\{255,256\}`, `\{300\}`, `\{65537\}`, `\{4294967297\}`, `\{18446744073709551617\}`, `\{1` + strings.Repeat("0", 1000) + `\}`, `\{0256\}`,
		`\{1,0\}`, `\{3,2\}`, `\{255,254\}`, `\{10,9\}`,
	} {
		basic.rows(t, row{"a" + sign, ""}, row{"a" + sign + "b", ""}, row{`\(a` + sign + `\)`, ""}, row{`\(a\)` + sign, ""}, row{sign, ""}, row{"*" + sign, ""})
	}
}

func TestBasicStars(t *testing.T) {
	basic.rows(t,
		row{"*", "<2a>"},
		row{"**", "<2a>{0,}"},
		row{"***", ""},
		row{"*a", "(<2a><61>)"},
		row{"^*", "(^<2a>)"},
		row{"^**", "(^<2a>{0,})"},
		row{"^***", ""},
		row{"^*a", "(^<2a><61>)"},
		row{`\(*\)`, "<2a>"},
		row{`\(*a\)`, "(<2a><61>)"},
		row{`\(**\)`, "<2a>{0,}"},
		row{`\(***\)`, ""},
		row{`\(^*\)`, "(^<2a>)"},
		row{`\(^**\)`, "(^<2a>{0,})"},
		row{`a\(*b\)`, "(<61>(<2a><62>))"},
		row{`a\(^*b\)`, "(<61>(^<2a><62>))"},
		row{`\(\(*\)*\)*`, "<2a>{0,}{0,}"},
		row{`\(*\)*`, "<2a>{0,}"},
		row{`*\(*\)`, "(<2a><2a>)"},
		row{`\*`, "<2a>"},
		row{`\**`, "<2a>{0,}"},
		row{`\*a`, "(<2a><61>)"},
		row{`\(\*\)`, "<2a>"},
		row{"a^*", "(<61><5e>{0,})"},
		row{"^^*", "(^<5e>{0,})"},
		row{"$*", "<24>{0,}"},
		row{"^$*", "(^<24>{0,})"},
		row{`\^*`, "<5e>{0,}"},
		row{`\\*`, "<5c>{0,}"},
		row{`\\(*`, "(<5c><28>{0,})"}, // no parenthesis
		row{`\\(^*`, "(<5c><28><5e>{0,})"},
		row{"[(]*", "<28>{0,}"},
		row{"[*]", "<2a>"},
		row{"a*b*", "(<61>{0,}<62>{0,})"},
		row{"[*]*", "<2a>{0,}"},
		row{`\(a*\)*`, "<61>{0,}{0,}"},
		row{`a\)*`, ""},
	)
}

func TestBasicAnchors(t *testing.T) {
	basic.rows(t,
		row{"^", "^"},
		row{"$", "$"},
		row{"^$", "(^$)"},
		row{"$^", "(<24><5e>)"},
		row{"^^", "(^<5e>)"},
		row{"^^^", "(^<5e><5e>)"},
		row{"$$", "(<24>$)"},
		row{"$$$", "(<24><24>$)"},
		row{"^a$", "(^<61>$)"},
		row{"a^", "(<61><5e>)"},
		row{"a^b", "(<61><5e><62>)"},
		row{"$a", "(<24><61>)"},
		row{"a$b", "(<61><24><62>)"},
		row{`\(^\)`, "^"},
		row{`\($\)`, "$"},
		row{`\(^$\)`, "(^$)"},
		row{`\(^a$\)`, "(^<61>$)"},
		row{`a\(^b\)`, "(<61>(^<62>))"},
		row{`\(a$\)b`, "((<61>$)<62>)"},
		row{`\(\(^a\)\)`, "(^<61>)"},
		row{`\(\(a$\)$\)$`, "(((<61>$)$)$)"},
		row{`^\(^a\)`, "(^(^<61>))"},
		row{`\(a\)^`, "(<61><5e>)"},
		row{`\(a\)$`, "(<61>$)"},
		row{`$\(a\)`, "(<24><61>)"},
		row{`\(a^\)`, "(<61><5e>)"},
		row{`\($a\)`, "(<24><61>)"},
		row{`\($$\)`, "(<24>$)"},
		row{`\(^^\)`, "(^<5e>)"},
		row{`\(^\)^`, "(^<5e>)"},
		row{`$\($\)`, "(<24>$)"},
		row{"*^", "(<2a><5e>)"},
		row{"a*$", "(<61>{0,}$)"},
		row{"a*^", "(<61>{0,}<5e>)"},
		row{`\^`, "<5e>"},
		row{`\$`, "<24>"},
		row{`a\$`, "(<61><24>)"},
		row{`\^a`, "(<5e><61>)"},
		row{`\(\^a\$\)`, "(<5e><61><24>)"},
		row{`$\`, ""},
		row{`a$\\)`, "(<61><24><5c><29>)"}, // no parenthesis ends here
		row{`$\.`, "(<24><2e>)"},
		row{`\\(^a`, "(<5c><28><5e><61>)"},
		row{"[^^]^", "(<00-5d,5f-ff><5e>)"},
		row{"[$]$", "(<24>$)"},
		row{"a$\n", "(<61><24><0a>)"},
		row{"\n^a", "(<0a><5e><61>)"},
	)
}

func TestBasicParentheses(t *testing.T) {
	for _, s := range []string{`\(`, `\(\(`, `\(a`, `\(\(a\)`, `a\(`, `a\(b`, `\(a\)\(`, `\(a\)\(b`, `\)`, `\)\)`, `a\)`, `\)a`, `\(a\)\)`, `a\)b`, `\)\(`, `\(\)\)`, `\(a)`, `(a\)`, `\(a\\)`, `\([\)]`, `\([\)`, `\(a*`, `\(^`, `\($`, `$\)`, `a$\)`, `^\)`, `*\)`, `\(a|b`} {
		basic.refuses(t, s, api.ErrRegex)
		basicFold.refuses(t, s, api.ErrRegex)
	}
	basic.rows(t, row{`\([\)]\)`, "<29,5c>"}, row{`\(a)\)`, "(<61><29>)"}, row{`\((a\)`, "(<28><61>)"}, row{`\(a\\\)`, "(<61><5c>)"})
}

// Behind a backslash stands a parenthesis, a number's beginning, or a byte that is neither a letter nor a digit.
func TestBasicBackslashes(t *testing.T) {
	for c := range 256 {
		b := oneOf(c)
		want := row{`\` + b, setOf(b)}
		if strings.Contains(letters+digits+"(){}", b) {
			want.want = ""
		}
		basic.rows(t, want)
		if want.want != "" {
			basic.rows(t, row{`\(\` + b + `\)`, want.want}, row{`a\` + b + `\{2\}b`, "(<61>" + want.want + "{2,2}<62>)"})
		} else if b != "(" && b != ")" && b != "{" {
			basic.rows(t, row{`\(\` + b + `\)`, ""}, row{`a\` + b + `\{2\}b`, ""}, row{`a\` + b, ""})
		}
	}
	for _, s := range []string{`\`, `a\`, `\(a\)\`, `\\\`, `\(\`, `a*\`, `[a]\`, `^\`, `*\`} {
		basic.refuses(t, s, api.ErrRegex)
	}
	basic.rows(t, row{`\\`, "<5c>"}, row{`\\\\`, "(<5c><5c>)"}, row{`\\a`, "(<5c><61>)"}, row{`\\\n`, ""}, row{`\(a\)\1`, ""}, row{"\\\n", "<0a>"}, row{`\\{1\\}`, "(<5c><7b><31><5c><7d>)"}, row{`\]`, "<5d>"}, row{`\-\/`, "(<2d><2f>)"})
}

// Each byte alone, and within others.
func TestBasicBytes(t *testing.T) {
	for c := range 256 {
		b := oneOf(c)
		one, within := setOf(b), "(<78>"+setOf(b)+"<79>)"
		switch b {
		case ".":
			one, within = anyByte, "(<78><00-ff><79>)"
		case "^", "$":
			one = b
		case "*":
			within = "(<78>{0,}<79>)"
		case "[":
			one, within = "", ""
		case `\`:
			one, within = "", "" // ahead of a letter
		}
		basic.rows(t, row{b, one}, row{"x" + b + "y", within})
	}
}

func TestBasicFold(t *testing.T) {
	basicFold.rows(t,
		row{"", "()"},
		row{"A", "<41,61>"},
		row{"aB1", "(<41,61><42,62><31>)"},
		row{`\(a\)*`, "<41,61>{0,}"},
		row{`z\{2\}`, "<5a,7a>{2,2}"},
		row{"[a-c]x", "(<41-43,61-63><58,78>)"},
		row{"[^x]", otherThan("xX")},
		row{"^a$", "(^<41,61>$)"},
		row{"*", "<2a>"},
		row{`\a`, ""},
	)
	for c := range 256 {
		if b := oneOf(c); !strings.Contains(`.^$[\`, b) {
			basicFold.reads(t, b, setOf(both(b)))
		} else {
			basicFold.reads(t, `\`+b, setOf(b))
		}
	}
}
