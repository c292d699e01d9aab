package order_test

import (
	"strings"
	"testing"
)

// P12.2

// other is another byte, so that fields stay where they are: no separator, and of a blank the other one, if that is none.
func other(c byte, sep string) byte {
	some := "~!?"
	if c == ' ' || c == '\t' {
		some = " \t~"
	}
	i := 0
	for some[i] == c || some[i:i+1] == sep {
		i++
	}
	return some[i]
}

// bytesOfKey shows which bytes of a line are of its only key: all others, whose change makes no key another one, are `_`. Separators stay as they are.
func bytesOfKey(t *testing.T, line, sep string, texts ...string) string {
	t.Helper()
	if sep != "" {
		texts = append(texts, "t"+sep)
	}
	o := given(t, texts...)
	shown := []byte(line)
	for i := range len(line) {
		if line[i:i+1] == sep {
			continue
		}
		changed := []byte(line)
		changed[i] = other(line[i], sep)
		if o.Keys([]byte(line), changed) == 0 {
			shown[i] = '_'
		}
	}
	return string(shown)
}

func TestFields(t *testing.T) {
	for _, c := range []struct {
		line string
		want list // of the first field, the second one, and so on
	}{
		{"", list{"", ""}},
		{"a", list{"a", "_"}},
		{"ab cd ef", list{"ab______", "__ cd___", "_____ ef", "________"}},
		{" ab", list{" ab", "___"}},
		{"  ab\tcd", list{"  ab___", "____\tcd", "_______"}},
		{" \t ab", list{" \t ab", "_____"}},
		{"a \t b", list{"a____", "_ \t b", "_____"}},
		{"a ", list{"a_", "_ ", "__"}},
		{"a\t", list{"a_", "_\t", "__"}},
		{"ab \t cd \t ", list{"ab________", "__ \t cd___", "_______ \t ", "__________"}},
		{" a b ", list{" a___", "__ b_", "____ ", "_____"}},
		{" ", list{" ", "_"}},
		{"\t", list{"\t", "_"}},
		{" \t \t", list{" \t \t", "____"}},
		{"a\vb\fc\rd\ne\x00f", list{"a\vb\fc\rd\ne\x00f", "___________"}}, // none of these is a blank
		{"\xa0 \xff", list{"\xa0__", "_ \xff", "___"}},
	} {
		for i, want := range c.want {
			n := digits(i + 1)
			if got := bytesOfKey(t, c.line, "", "k"+n+","+n); got != want {
				t.Errorf("%q, field %s: %q, not %q", c.line, n, got, want)
			}
		}
	}
}

func TestFieldsBySeparators(t *testing.T) {
	for _, c := range []struct {
		sep, line string
		want      list
	}{
		{":", "", list{"", ""}},
		{":", "a", list{"a", "_"}},
		{":", "ab:cd:ef", list{"ab:__:__", "__:cd:__", "__:__:ef", "__:__:__"}},
		{":", " a : b ", list{" a :___", "___: b ", "___:___"}},
		{":", ":a", list{":_", ":a", ":_"}},
		{":", "a:", list{"a:", "_:", "_:"}},
		{":", "a::b", list{"a::_", "_::_", "_::b", "_::_"}},
		{":", "::a", list{"::_", "::_", "::a", "::_"}},
		{":", "a b", list{"a b", "___"}},
		{" ", "a b", list{"a _", "_ b", "_ _"}},
		{" ", "a  b", list{"a  _", "_  _", "_  b"}},
		{" ", " a\tb c", list{" ___ _", " a\tb _", " ___ c"}},
		{"\t", "a b\tc", list{"a b\t_", "___\tc", "___\t_"}},
		{"\n", "a\nb", list{"a\n_", "_\nb"}},
		{"\x00", "a\x00b", list{"a\x00_", "_\x00b"}},
		{"\xff", "a\xffb\xfec", list{"a\xff___", "_\xffb\xfec", "_\xff___"}},
		{"a", "banana", list{"ba_a_a", "_ana_a", "_a_ana", "_a_a_a"}},
	} {
		for i, want := range c.want {
			n := digits(i + 1)
			if got := bytesOfKey(t, c.line, c.sep, "k"+n+","+n); got != want {
				t.Errorf("%q at %q, field %s: %q, not %q", c.line, c.sep, n, got, want)
			}
		}
	}
}

// A field that has no bytes is one, and one that is not there has none: both are less than any other.
func TestFieldsWithoutBytes(t *testing.T) {
	held(t, list{"t:", "k2,2"},
		pair{"a:", "a", "=>"},
		pair{":", "", "=>"},
		pair{"a::z", "a:b", "<<"},
		pair{"a::z", "a", "=>"},
		pair{"::", "", "=>"},
		pair{"a:b", "a", ">>"},
		pair{":a", ":", ">>"},
	)
	held(t, list{"t:", "k3,3"}, pair{"a:b:", "a:b", "=>"}, pair{"a:b:c", "a:b", ">>"}, pair{"::c", "x", ">>"})
	held(t, list{"t:", "k1,1"}, pair{":a", "", "=>"}, pair{":a", "a", "<<"})
	held(t, list{"k1,1"}, pair{"", " ", "<<"}, pair{"", "", "=="})
	held(t, list{"k2,2"}, pair{"a ", "a", ">>"}, pair{"", "a", "=<"}, pair{" a", "a", "=<"}, pair{"a b", "a ", ">>"})
}

// What lies between is of the key, separators too.
func TestSeparatorsWithinKeys(t *testing.T) {
	held(t, list{"t:", "k1,2"}, pair{"a:b:c", "a:b", "=>"}, pair{"a:b", "ab", "<<"}, pair{"a:", "a", ">>"}, pair{":", "", ">>"})
	held(t, list{"t:", "k1,3"}, pair{"a::", "a:", ">>"}, pair{"a::", "a::x", "<<"})
	held(t, list{"t:", "k1.3"}, pair{"a:b:c", "a:b:d", "<<"}, pair{"a::b", "a:b", "<<"})
	held(t, list{"t:", "k1.2,1.2"}, pair{"a:", "b:", "=<"}, pair{"a:", "a;", "<<"}, pair{"a:x", "a:y", "=<"}, pair{"a", "a:", "<<"}) // the byte behind the field
	held(t, list{"t:", "k2.1,2.1"}, pair{"a::b", "a:;b", "<<"}, pair{"a::b", "b::c", "=<"}, pair{"a:", "a::", "<<"})
	held(t, list{"t:", "k1.2,2"}, pair{"a:b:c", "x:b:d", "=<"}, pair{"a:b", "a", ">>"})
}

func TestPlaces(t *testing.T) {
	const line = "ab  cde \tf"
	for key, want := range map[string]string{
		"1":                     "ab  cde \tf",
		"2":                     "__  cde \tf",
		"3":                     "_______ \tf",
		"4":                     "__________",
		"2147483647":            "__________",
		"1.1":                   "ab  cde \tf",
		"1.2":                   "_b  cde \tf",
		"1.3":                   "__  cde \tf", // behind the field
		"1.6":                   "_____de \tf",
		"1.10":                  "_________f",
		"1.11":                  "__________", // behind the line's end
		"1.12":                  "__________",
		"1.2147483647":          "__________",
		"2.1":                   "__  cde \tf",
		"2.2":                   "___ cde \tf",
		"2.3":                   "____cde \tf",
		"2.5":                   "______e \tf",
		"2.6":                   "_______ \tf",
		"2.8":                   "_________f",
		"2.9":                   "__________",
		"3.3":                   "_________f",
		"3.4":                   "__________",
		"4.1":                   "__________",
		"2147483647.2147483647": "__________",
		"1b":                    "ab  cde \tf",
		"2b":                    "____cde \tf",
		"3b":                    "_________f",
		"4b":                    "__________",
		"2.1b":                  "____cde \tf",
		"2.2b":                  "_____de \tf",
		"2.4b":                  "_______ \tf",
		"2.7b":                  "__________",
		"2.2147483647b":         "__________",
		"3.2b":                  "__________",
		"1,1":                   "ab________",
		"1,2":                   "ab  cde___",
		"1,3":                   "ab  cde \tf",
		"1,4":                   "ab  cde \tf",
		"1,2147483647":          "ab  cde \tf",
		"1,1.0":                 "ab________",
		"1,2.0":                 "ab  cde___",
		"1,2.00b":               "ab  cde___",
		"1,2b":                  "ab  cde___",
		"1,1.1":                 "a_________",
		"1,1.2":                 "ab________",
		"1,1.3":                 "ab _______", // behind the field
		"1,1.9":                 "ab  cde \t_",
		"1,1.10":                "ab  cde \tf",
		"1,1.11":                "ab  cde \tf",
		"1,1.2147483647":        "ab  cde \tf",
		"1,2.1":                 "ab _______",
		"1,2.3":                 "ab  c_____",
		"1,2.1b":                "ab  c_____",
		"1,2.3b":                "ab  cde___",
		"1,2.4b":                "ab  cde __",
		"1,3.1b":                "ab  cde \tf",
		"1,3.2147483647b":       "ab  cde \tf",
		"1,4.1":                 "ab  cde \tf",
		"1,4.0b":                "ab  cde \tf",
		"1.2,1.2":               "_b________",
		"1.3,2.1":               "__ _______",
		"2,2":                   "__  cde___",
		"2b,2":                  "____cde___",
		"2,2b":                  "__  cde___",
		"2b,2.1b":               "____c_____",
		"2b,2.1":                "__________", // it ends ahead of its beginning
		"2,2.1b":                "__  c_____",
		"2.2b,2.2b":             "_____d____",
		"3b,3":                  "_________f",
		"2,1":                   "__________",
		"1.2,1.1":               "__________",
		"3,1.8":                 "_______ __",
		"3,1.7":                 "__________",
		"1.3,1":                 "__________",
		"1.4,1":                 "__________",
		"2,1.0":                 "__________",
		"4,1":                   "__________",
		"4,4":                   "__________",
	} {
		if got := bytesOfKey(t, line, "", "k"+key); got != want {
			t.Errorf("%q: %q, not %q", key, got, want)
		}
	}
}

func TestPlacesBySeparators(t *testing.T) {
	const line = "ab: cd::  :e"
	for key, want := range map[string]string{
		"2":           "__: cd::  :e",
		"2b":          "__:_cd::  :e",
		"2.2":         "__:_cd::  :e",
		"2.2b":        "__:__d::  :e",
		"2,2":         "__: cd::__:_",
		"2b,2":        "__:_cd::__:_",
		"2,2.1":       "__: __::__:_",
		"2,2.1b":      "__: c_::__:_",
		"2.5":         "__:___::  :e", // from the second colon on, behind the field
		"2.6":         "__:___::  :e",
		"3":           "__:___::  :e",
		"3,3":         "__:___::__:_", // no bytes
		"3b,3.2b":     "__:___:: _:_",
		"3,3.3":       "__:___::  :_",
		"4,4":         "__:___::  :_",
		"4b,4":        "__:___::__:_", // blanks alone: from its end on
		"4b":          "__:___::__:e",
		"4.2b":        "__:___::__:e",
		"4.3b":        "__:___::__:_",
		"4,4.1b":      "__:___::  :_",
		"4,4.2b":      "__:___::  :e",
		"4.2b,4.2b":   "__:___::__:e",
		"4.2b,5":      "__:___::__:e",
		"5,5":         "__:___::__:e",
		"6":           "__:___::__:_",
		"5,6.1":       "__:___::__:e",
		"1.9,1.9":     "__:___:: _:_",
		"1.10,1.10":   "__:___::_ :_",
		"4,4.0b":      "__:___::  :_",
		"1,3":         "ab: cd::__:_",
		"4.2,2147483": "__:___::_ :e",
	} {
		if got := bytesOfKey(t, line, ":", "k"+key); got != want {
			t.Errorf("%q: %q, not %q", key, got, want)
		}
	}
}

// Blanks at the line's end are a field of blanks alone.
func TestBlanksAloneWithB(t *testing.T) {
	for _, c := range []struct{ key, line, want string }{
		{"1b", "   ", "___"},
		{"1b,1", "   ", "___"},
		{"1,1.1b", "   ", "   "},
		{"2b", "a  ", "___"},
		{"2.1b", "a  ", "___"},
		{"2,2.1b", "a  ", "_  "},
		{"1,2b", "a  ", "a  "},
		{"2", "a  ", "_  "},
		{"1b", "", ""},
		{"1.2b,1.2b", "", ""},
		{"1.5", "", ""},
	} {
		if got := bytesOfKey(t, c.line, "", "k"+c.key); got != c.want {
			t.Errorf("%q of %q: %q, not %q", c.key, c.line, got, c.want)
		}
	}
	held(t, list{"b"}, pair{"   ", "", "=>"}, pair{"  \t", " ", "=>"}, pair{"  a", "a", "=<"}, pair{" ", "\x00", "<<"})
}

// A key that ends ahead of its beginning has no bytes, as one of a field that is not there.
func TestKeysThatEndAheadOfTheirBeginning(t *testing.T) {
	for _, key := range []string{"k2,1", "k1.2,1.1", "k3,1.1", "k1.9,1", "k2147483647.2147483647,1", "k2b,1.1", "k2.2147483647,2.1b"} {
		held(t, list{key}, pair{"ab cd", "ef gh", "=<"}, pair{"", "ab cd ef", "=<"}, pair{"b", "a c", "=>"})
	}
}

// What is asked of a long line ends, and soon.
func TestLongLines(t *testing.T) {
	words := strings.Repeat("w ", 100000)
	colons := strings.Repeat(":", 200000)
	held(t, list{"k2147483647"}, pair{words + "a", words + "b", "=<"})
	held(t, list{"k100001"}, pair{words + "a", words + "b", "<<"}, pair{words, words + "b", "<<"})
	held(t, list{"k1.200001,1.200001"}, pair{words + "ab", words + "ac", "=<"}, pair{words + "a", words + "b", "<<"})
	held(t, list{"t:", "k200001"}, pair{colons + "a", colons + "b", "<<"}, pair{colons, colons + "b", "<<"})
	held(t, list{"t:", "k200002"}, pair{colons + "a", colons + "b", "=<"})
	held(t, list{"k1.2147483647,2147483647.2147483647"}, pair{words + "a", words + "b", "=<"})
}
