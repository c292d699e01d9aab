package names_test

import (
	"strings"
	"testing"
)

// P19.3

func TestOperandsOfPrintf(t *testing.T) {
	refuses(t, "printf")
	refuses(t, "printf", "--")
	for _, args := range []string{"-a", "-a %s", "-%s", "-n a", "-- --", "--version", "-- -- a"} {
		l := append([]string{"printf"}, strings.Fields(args)...)
		if l[1] == "--" {
			tells(t, "--", l...) // the second one is the FORMAT
			continue
		}
		refuses(t, l...)
	}
	tells(t, "", "printf", "")
	tells(t, "", "printf", "--", "")
	tells(t, "", "printf", "", "a", "b")
	tells(t, "a", "printf", "a")
	tells(t, "a", "printf", "--", "a")
	tells(t, "-", "printf", "-")
	tells(t, "-", "printf", "--", "-")
	tells(t, "-a b", "printf", "--", "-%s", "a b")
	tells(t, "-n", "printf", "%s", "-n")
	tells(t, "--,a,", "printf", "%s,", "--", "a") // behind an operand it is one, too
	tells(t, "-5", "printf", "%d", "-5")
}

func TestBytesOfFormats(t *testing.T) {
	for _, s := range []string{"a", "a b", " ", "\n", "a\n", "-n-", "\x00", "\xff\xfe", "äö", "$1 'a' \"b\"", "(a)[b]{c}", strings.Repeat("ab\n", 5000)} {
		tells(t, s, "printf", "--", s)
		tells(t, s+"x"+s, "printf", "--", s+"%s"+s, "x")
	}
	var all []byte
	for c := range 256 {
		if c != '%' && c != '\\' {
			all = append(all, byte(c))
		}
	}
	tells(t, string(all), "printf", string(all))
}

func TestEscapes(t *testing.T) {
	for _, c := range []struct{ format, out string }{
		{`\\`, `\`},
		{`\a`, "\x07"},
		{`\b`, "\x08"},
		{`\f`, "\x0c"},
		{`\n`, "\x0a"},
		{`\r`, "\x0d"},
		{`\t`, "\x09"},
		{`\v`, "\x0b"},
		{`a\nb\tc`, "a\nb\tc"},
		{`\n\n`, "\n\n"},
		{`\\n`, `\n`},
		{`\\\n`, "\\\n"},
		{`\\\\`, `\\`},
		// Digits to the base eight.
		{`\0`, "\x00"},
		{`\7`, "\x07"},
		{`\00`, "\x00"},
		{`\000`, "\x00"},
		{`\0000`, "\x000"},
		{`\12`, "\n"},
		{`\012`, "\n"},
		{`\0012`, "\x012"},
		{`\0101`, "\x081"}, // the fourth one is a byte
		{`\101`, "A"},
		{`\1011`, "A1"},
		{`\1`, "\x01"},
		{`\18`, "\x018"},
		{`\1a`, "\x01a"},
		{`\108`, "\x088"},
		{`\1 01`, "\x01 01"},
		{`\177\200`, "\x7f\x80"},
		{`\377`, "\xff"},
		{`\400`, "\x00"}, // the lowest eight bits
		{`\401`, "\x01"},
		{`\501`, "A"},
		{`\777`, "\xff"},
		{`\7777`, "\xff7"},
		{`\101\102`, "AB"},
		{`\1\2`, "\x01\x02"},
		// A backslash and anything else, or nothing.
		{`\`, `\`},
		{`a\`, `a\`},
		{`\\\`, `\\`},
		{`\8`, `\8`},
		{`\9`, `\9`},
		{`\8101`, `\8101`},
		{`\c`, `\c`},
		{`a\cb`, `a\cb`},
		{`\q`, `\q`},
		{`\N`, `\N`},
		{`\A`, `\A`},
		{`\e`, `\e`},
		{`\x41`, `\x41`},
		{`\u0041`, `\u0041`},
		{`\"`, `\"`},
		{`\'`, `\'`},
		{`\ `, `\ `},
		{`\-`, `\-`},
		{"\\\n", "\\\n"},
		{"\\\xff", "\\\xff"},
		{"\\\x00", "\\\x00"},
		{`\%`, `\%`},
		{`\%d`, `\%d`},
		{`\%%%`, `\%%`},
		{`\\%%`, `\%`},
	} {
		tells(t, c.out, "printf", c.format)
		tells(t, "x"+c.out, "printf", "x"+c.format)
		tells(t, c.out+",y", "printf", c.format+",%s", "y")
		tells(t, "y"+c.out, "printf", "%s"+c.format, "y")
	}
	// What an escape makes is no part of a conversion or of another escape.
	tells(t, "%s", "printf", `\045s`, "a")
	tells(t, "%%", "printf", `\45%%`, "a")
	tells(t, `\n`, "printf", `\134n`)
	refuses(t, "printf", `%\163`, "a")
	refuses(t, "printf", `%\x`, "a")
}

// Each byte behind a backslash.
func TestEveryEscape(t *testing.T) {
	const letters = `\abfnrtv`
	for c := range 256 {
		want := `\` + string([]byte{byte(c)})
		if i := strings.IndexByte(letters, byte(c)); i >= 0 {
			want = string([]byte{"\\\x07\x08\x0c\x0a\x0d\x09\x0b"[i]})
		} else if c >= '0' && c <= '7' {
			want = string([]byte{byte(c) - '0'})
		}
		tells(t, want+"z", "printf", `\`+string([]byte{byte(c)})+"z")
		if c != '0' && c != 'c' {
			tells(t, want+"z", "printf", "%b", `\`+string([]byte{byte(c)})+"z")
		}
	}
	for n := range 512 {
		digits := string([]byte{'0' + byte(n>>6), '0' + byte(n>>3&7), '0' + byte(n&7)})
		want := string([]byte{byte(n)})
		tells(t, want+"8", "printf", `\`+digits+"8")
		tells(t, want+"8", "printf", "%b", `\0`+digits+"8")
		if n > 63 {
			tells(t, want+"8", "printf", "%b", `\`+digits+"8")
		}
	}
}

// What a conversion may be.
func TestConversions(t *testing.T) {
	for _, c := range []struct{ format, out string }{
		{"%%", "%"},
		{"%%%%", "%%"},
		{"a%%b", "a%b"},
		{"%%s", "%s"},
		{"%%%s", "%7"},
		{"%d%%", "7%"},
		{"%s", "7"},
		{"%c", "7"},
		{"%b", "7"},
		{"%d", "7"},
		{"%i", "7"},
		{"%u", "7"},
		{"%o", "7"},
		{"%x", "7"},
		{"%X", "7"},
		// Flags, alone, several, twice.
		{"%-d", "7"},
		{"%+d", "+7"},
		{"% d", " 7"},
		{"%0d", "7"},
		{"%#x", "0x7"},
		{"%--d", "7"},
		{"%++d", "+7"},
		{"%  d", " 7"},
		{"%00d", "7"},
		{"%##x", "0x7"},
		{"%-+ 0#d", "+7"},
		{"%#0 +-3d|", "+7 |"},
		{"%0-+#-+ 0#3d|", "+7 |"},
		{"%" + strings.Repeat("0- ", 5000) + "3d|", " 7 |"},
		// Widths.
		{"%1d", "7"},
		{"%2d", " 7"},
		{"%9d", "        7"},
		{"%10d", "         7"},
		{"%010d", "0000000007"},
		{"%0010d", "0000000007"},
		{"%999d", strings.Repeat(" ", 998) + "7"},
		{"%1000d", strings.Repeat(" ", 999) + "7"},
		{"%01000d", strings.Repeat("0", 999) + "7"},
		{"%-1000s|", "7" + strings.Repeat(" ", 999) + "|"},
		// Precisions.
		{"%.d", "7"},
		{"%.0d", "7"},
		{"%.1d", "7"},
		{"%.3d", "007"},
		{"%.03d", "007"},
		{"%.00003d", "007"},
		{"%.s|", "|"},
		{"%.0s|", "|"},
		{"%.1s|", "7|"},
		{"%.1000s|", "7|"},
		{"%.1000d", strings.Repeat("0", 999) + "7"},
		{"%.0000000000000000000001000d", strings.Repeat("0", 999) + "7"},
		{"%4.3d", " 007"},
		{"%-4.3d|", "007 |"},
		{"%1000.1000d", strings.Repeat("0", 999) + "7"},
		{"%5.d", "    7"},
		{"%5.s|", "     |"},
	} {
		tells(t, c.out, "printf", c.format, "7")
	}
}

// Nothing is told of a FORMAT that may not be, also of what stands ahead, and no argument is looked at.
func TestConversionsThatMayNotBe(t *testing.T) {
	for _, s := range []string{
		"%", "%-", "%+", "% ", "%0", "%#", "%5", "%.", "%.5", "%5.", "%5.5", "%-+ 0#12.34",
		"%1001d", "%1001s", "%9999d", "%10000d", "%2147483648d", "%4294967297d", "%18446744073709551617d", "%99999999999999999999999999d", "%-01001c",
		"%.1001d", "%.1001s", "%.4294967297d", "%.18446744073709551617d", "%.99999999999999999999999999b", "%1001.1001d", "%1.1001d", "%1001.1d", "%01001d",
		"%-%", "%5%", "%.%", "% %", "%+%", "%0%", "%#%",
		"%a", "%A", "%e", "%E", "%f", "%F", "%g", "%G", "%n", "%p", "%q", "%C", "%S", "%D", "%U", "%O", "%B", "%I", "%k", "%j", "%z", "%t", "%(", "%y", "%v", "%h",
		"%ld", "%hd", "%lld", "%zu", "%jd", "%hhx", "%Ld",
		"%*d", "%.*d", "%*.*d", "%1$s", "%'d", "%,d", "%_d", "%\td", "%\nd", "%\x00", "%\xff", "%\\", "%!",
		"%5-d", "%5+d", "%5 d", "%5#d", "%.-d", "%.-5d", "%.+5d", "%. 5d", "%..d", "%.5.d", "%.5.5d", "%.5-d", "%5.5#x", "%-.0-s",
	} {
		refuses(t, "printf", s)
		refuses(t, "printf", "told%s\n"+s, "a", "b")
		refuses(t, "printf", s+"\n%d", "x")
		refuses(t, "printf", "%d%b"+s, "x", `\c`)
		refuses(t, "printf", "--", "%%"+s)
	}
	// A `%` that is none of another one's.
	refuses(t, "printf", "%%%")
	refuses(t, "printf", "%s%", "a")
	refuses(t, "printf", `\\%`)
	refuses(t, "printf", `%5\n`)
}

// Each byte behind a `%` is a letter, a flag, or none.
func TestEveryLetter(t *testing.T) {
	for c := range 256 {
		letter := string([]byte{byte(c)})
		switch {
		case letter == "%":
			tells(t, "%", "printf", "%"+letter)
			refuses(t, "printf", "%1"+letter, "7")
		case strings.Contains("scbdiuoxX", letter):
			tells(t, "7", "printf", "%"+letter, "7")
			tells(t, "   7", "printf", "%4"+letter, "7")
		default:
			refuses(t, "printf", "%"+letter, "7")
			refuses(t, "printf", "%4"+letter, "7")
		}
	}
}

// How the letters take the arguments.
func TestArguments(t *testing.T) {
	for _, c := range []struct {
		format string
		out    string
		args   []string
	}{
		// None is left: nothing, or 0.
		{"%s|", "|", nil},
		{"%c|", "|", nil},
		{"%b|", "|", nil},
		{"%d|%i|%u|%o|%x|%X|", "0|0|0|0|0|0|", nil},
		{"%3s|%3c|%3b|%3d|%-3s|%-3d|%03d|%.0d|", "   |   |   |  0|   |0  |000||", nil},
		{"%s-%s", "a-", []string{"a"}},
		{"%s-%d-%s", "a-0-", []string{"a"}},
		{"%d-%d", "1-0", []string{"1"}},
		// As many.
		{"%s-%s", "a-b", []string{"a", "b"}},
		{"%s", "a", []string{"a"}},
		{"%s%s%s", "abc", []string{"a", "b", "c"}},
		{"%d%%%s", "1%b", []string{"1", "b"}},
		// More: it is gone through anew.
		{"%s-", "a-b-c-", []string{"a", "b", "c"}},
		{"%s-%s;", "a-b;c-;", []string{"a", "b", "c"}},
		{"%s-%d;", "a-2;c-0;", []string{"a", "2", "c"}},
		{"<%s %d %c>", "<a 1 x><b 2 y>", []string{"a", "1", "xx", "b", "2", "yy"}},
		{"x%s", "xaxb", []string{"a", "b"}},
		{"%sx", "axbx", []string{"a", "b"}},
		{`%s\n`, "a\nb\n", []string{"a", "b"}},
		{`\t%%%s`, "\t%a\t%b", []string{"a", "b"}},
		{"%.0s", "", []string{"a", "b", "c"}},
		{"%.0s-", "---", []string{"a", "b", "c"}},
		{"%s%s%s%s;", "abcd;e;", []string{"a", "b", "c", "d", "e"}},
		// Empty ones are arguments.
		{"%s,", ",", []string{""}},
		{"%s,", ",,", []string{"", ""}},
		{"%s,%s;", "a,;,b;", []string{"a", "", "", "b"}},
		{"%d,", "0,0,", []string{"", ""}},
		{"%c,", ",x,", []string{"", "x"}},
		{"%b,", ",x,", []string{"", "x"}},
		// It takes none: once.
		{"a", "a", []string{"x"}},
		{"a", "a", []string{"x", "y", "z"}},
		{"", "", []string{"x", "y"}},
		{"%%", "%", []string{"x", "y"}},
		{`\n`, "\n", []string{"", ""}},
		{`\%s`, `\%s`, []string{"x", "y"}},
	} {
		tells(t, c.out, append([]string{"printf", c.format}, c.args...)...)
		tells(t, c.out, append([]string{"printf", "--", c.format}, c.args...)...)
	}
	// Arguments are no FORMATs, and but for b no escapes.
	tells(t, `%s%%\n\c`, "printf", "%s", `%s%%\n\c`)
	many := strings.Fields(strings.Repeat("ab ", 5000))
	tells(t, strings.Repeat("ab,", 5000), append([]string{"printf", "%s,"}, many...)...)
	tells(t, strings.Repeat("abab,", 2500), append([]string{"printf", "%s%s,"}, many...)...)
	tells(t, strings.Repeat("ab", 5000)+strings.Repeat(".", 3), append([]string{"printf", strings.Repeat("%s", 5003) + "..."}, many...)...)
}

// P19.4: printf '%s\n' tells each argument in a line.
func TestEachInALine(t *testing.T) {
	c := chanceOf(1)
	for range 300 {
		var lines string
		args := []string{"printf", `%s\n`}
		for range 1 + c.Intn(6) {
			s := c.argument()
			args = append(args, s)
			lines += s + "\n"
		}
		tells(t, lines, args...)
	}
}
