package order_test

import (
	"strconv"
	"strings"
	"testing"
)

func digits(n int) string { return strconv.Itoa(n) }

// P12.3

func TestNumbers(t *testing.T) {
	for _, p := range []pair{
		{"1", "2", "<<"},
		{"2", "10", "<<"},
		{"10", "9", ">>"},
		{"", "0", "=<"},
		{"", "x", "=<"},
		{"x", "0", "=>"},
		{"x", "1", "<<"},
		{"x", "-1", ">>"},
		{"-", "", "=>"},
		{"-", "0", "=<"},
		{"-", "-1", ">>"},
		{"-", "1", "<<"},
		{"-x", "0", "=<"},
		{"-0", "0", "=<"},
		{"-000", "", "=>"},
		{"-0", "1", "<<"},
		{"-0", "-1", ">>"},
		{"-1", "0", "<<"},
		{"-1", "1", "<<"},
		{"-1", "-2", ">>"},
		{"-9", "-10", ">>"},
		{"-10", "9", "<<"},
		{"-10", "-9", "<<"},
		{"-12", "-13", ">>"},
		{"--1", "0", "=<"}, // one sign alone
		{"--1", "-1", ">>"},
		{"+1", "0", "=<"}, // no sign
		{"+5", "1", "<<"},
		{"- 1", "0", "=<"}, // blanks are ahead of the sign alone
		{"- 1", "-1", ">>"},
		{"007", "7", "=<"},
		{"007", "8", "<<"},
		{"0010", "9", ">>"},
		{"-007", "-7", "=<"},
		{"-010", "-9", "<<"},
		{"00", "0", "=>"},
		{" 1", "1", "=<"},
		{"\t 1", " \t1", "=<"},
		{"  10", "9", ">>"},
		{" -1", "-1", "=<"},
		{" -2", "-1", "<<"},
		{" ", "", "=>"},
		{" x", "0", "=<"},
		{"\n1", "0", "=<"}, // no blank
		{"\v1", "0", "=<"},
		{"1x", "1", "=>"},
		{"1x", "1y", "=<"},
		{"12x9", "12", "=>"},
		{"1.5", "1", "=>"}, // no part of the number
		{"1.5", "1.25", "=>"},
		{"1,000", "2", "<<"},
		{"1 2", "1 3", "=<"},
		{"1-2", "1", "=>"},
		{"1e9", "2", "<<"},
		{"0x10", "1", "<<"},
		{"1/", "1:", "=<"}, // what stands beside the digits
		{"\xff1", "0", "=>"},
		{"\x001", "0", "=<"},
		{"2147483647", "2147483648", "<<"},
		{"4294967295", "4294967296", "<<"},
		{"9223372036854775807", "9223372036854775808", "<<"},
		{"18446744073709551615", "18446744073709551616", "<<"},
		{"18446744073709551616", "1", ">>"},
		{"-9223372036854775808", "-9223372036854775809", ">>"},
		{"-18446744073709551616", "1", "<<"},
		{"123456789012345678901234567890", "123456789012345678901234567891", "<<"},
		{"-123456789012345678901234567890", "-123456789012345678901234567891", ">>"},
		{"123456789012345678901234567890", "99999999999999999999999999999", ">>"},
		{"000000000000000000000000000000000000001", "1", "=<"},
		{"000000000000000000000000000000000000001", "2", "<<"},
		{"0.1", "0.2", "=<"},
	} {
		held(t, list{"n"}, p)
		held(t, list{"k1n"}, p)
		// Of a number no byte is left out, and none counts as another one.
		held(t, list{"n", "d", "i", "f"}, p)
		// The other way round, behind the keys too, or the keys alone.
		held(t, list{"n", "r"}, pair{p.a, p.b, turned(p.want)})
		held(t, list{"k1nr"}, pair{p.a, p.b, keyTurned(p.want)})
	}
}

// keyTurned is what is answered where only a key is turned.
func keyTurned(want string) string {
	if want[0] == '=' {
		return want
	}
	return turned(want)
}

func TestLongNumbers(t *testing.T) {
	nines := strings.Repeat("9", 100000)
	noughts := strings.Repeat("0", 100000)
	held(t, list{"n"},
		pair{nines, "1" + noughts, "<<"},
		pair{"-" + nines, "-1" + noughts, ">>"},
		pair{noughts + "5", "5", "=<"},
		pair{noughts, "", "=>"},
		pair{"-" + noughts + "1", "0", "<<"},
		pair{nines + "1", nines + "2", "<<"},
	)
}

// A number ends with its key.
func TestNumbersWithinKeys(t *testing.T) {
	held(t, list{"k1.1,1.2n"}, pair{"123", "129", "=<"}, pair{"129", "13", "<<"}, pair{"9", "10", "<<"}, pair{"-12", "-19", "=<"})
	held(t, list{"t:", "k2n"}, pair{"a:2", "a:10", "<<"}, pair{"a: 2:1", "a:2:0", "=<"})
	held(t, list{"k2n"}, pair{"a 2", "a   10", "<<"}, pair{"a\t2", "a 1", ">>"}, pair{"a", "a 1", "<<"}, pair{"a", "a -1", ">>"})
}

func TestBytes(t *testing.T) {
	held(t, nil,
		pair{"", "", "=="},
		pair{"", "\x00", "<<"},
		pair{"a", "b", "<<"},
		pair{"a", "ab", "<<"},
		pair{"ab", "b", "<<"},
		pair{"abc", "abd", "<<"},
		pair{"B", "a", "<<"},
		pair{"Z", "_", "<<"},
		pair{"_", "a", "<<"},
		pair{" ", "a", "<<"},
		pair{"\t", " ", "<<"},
		pair{"a", "a ", "<<"},
		pair{"a", "a\x00", "<<"},
		pair{"a\x00b", "a\x00c", "<<"},
		pair{"z", "\x80", "<<"},
		pair{"\x7f", "\x80", "<<"},
		pair{"\x80", "\xff", "<<"},
		pair{"\xc3\xa9", "\xc3\xaa", "<<"},
		pair{"\xffa", "\xffb", "<<"},
		pair{"a\xff", "b", "<<"},
		pair{"10", "9", "<<"},
		pair{"a\nb", "a\nc", "<<"},
	)
}

// countsWith tells for each byte whether it counts with flags: a line with it is the same as one without, or it is not.
func countsWith(t *testing.T, want func(c int) bool, flags ...string) {
	t.Helper()
	o := given(t, flags...)
	for c := range 256 {
		with, without := []byte{'a', byte(c), 'b'}, []byte("ab")
		if got := o.Keys(with, without) != 0; got != want(c) {
			t.Errorf("%q: the byte %d: %v", flags, c, got)
		}
		if o.Compare(with, without) == 0 {
			t.Errorf("%q: the byte %d: the lines are not the same", flags, c)
		}
	}
}

func inDictionary(c int) bool {
	return c == 9 || c == 32 || c >= 48 && c <= 57 || c >= 65 && c <= 90 || c >= 97 && c <= 122
}

func isPrintable(c int) bool { return c >= 32 && c <= 126 }

func TestBytesThatCount(t *testing.T) {
	all := func(int) bool { return true }
	both := func(c int) bool { return inDictionary(c) && isPrintable(c) }
	for _, more := range []list{nil, {"f"}, {"r"}, {"f", "r"}, {"tx"}} {
		countsWith(t, all, more...)
		countsWith(t, inDictionary, append(list{"d"}, more...)...)
		countsWith(t, isPrintable, append(list{"i"}, more...)...)
		countsWith(t, both, append(list{"d", "i"}, more...)...)
		countsWith(t, both, append(list{"i", "d"}, more...)...)
	}
	countsWith(t, inDictionary, "k1d")
	countsWith(t, isPrintable, "k1,1.5i")
	countsWith(t, both, "k1d,1.9i")
}

// Each byte counts as itself, with f small letters as great ones.
func TestValuesOfBytes(t *testing.T) {
	great := func(c int) int {
		if c >= 'a' && c <= 'z' {
			return c - 'a' + 'A'
		}
		return c
	}
	plain, folded := given(t, "k1.1"), given(t, "f")
	for x := range 256 {
		for y := range 256 {
			a, b := []byte{byte(x), 'q'}, []byte{byte(y), 'q'}
			if got := sign(plain.Keys(a, b)); got != sign(x-y) {
				t.Errorf("%d, %d: %d", x, y, got)
			}
			if got := sign(folded.Keys(a, b)); got != sign(great(x)-great(y)) {
				t.Errorf("%d, %d with f: %d", x, y, got)
			}
			if got, want := sign(folded.Compare(a, b)), sign(great(x)-great(y)); want != 0 && got != want || want == 0 && got != sign(x-y) {
				t.Errorf("%d, %d with f: %d of Compare", x, y, got)
			}
		}
	}
}

func TestDictionaryPrintableAndFolded(t *testing.T) {
	held(t, list{"d"},
		pair{"a-b", "ab", "=<"},
		pair{"(b)", "a", ">>"},
		pair{"---", "", "=>"},
		pair{"\xff", "", "=>"},
		pair{"a\tb", "ab", "<<"},
		pair{"a b", "ab", "<<"},
		pair{"a.b", "ac", "<<"},
		pair{"B", "a", "<<"},
		pair{"ab", "a!b!c", "<<"},
		pair{"a!b!c", "ab!d", "<<"},
	)
	held(t, list{"i"},
		pair{"a\x01b", "ab", "=<"},
		pair{"a\tb", "ab", "=<"},
		pair{"a\xffb", "ab", "=>"},
		pair{"\x7fb", "a", ">>"},
		pair{"a-b", "ab", "<<"},
		pair{"~", " ", ">>"},
		pair{"\x80\x81", "", "=>"},
	)
	held(t, list{"d", "i"}, pair{"a\tb", "ab", "=<"}, pair{"a-b", "ab", "=<"}, pair{"a b", "ab", "<<"})
	held(t, list{"f"},
		pair{"a", "A", "=>"},
		pair{"a", "B", "<<"},
		pair{"A", "b", "<<"},
		pair{"abc", "ABD", "<<"},
		pair{"_", "a", ">>"}, // as a great one it is ahead
		pair{"_", "A", ">>"},
		pair{"[", "z", ">>"},
		pair{"@", "a", "<<"},
		pair{"`", "a", ">>"},
		pair{"{", "z", ">>"},
		pair{"\xe9", "\xc9", ">>"}, // no letters
		pair{"ab", "ABC", "<<"},
	)
	held(t, list{"d", "f"}, pair{"-a", "A", "=<"}, pair{"-b", "A", ">>"}, pair{"a_c", "AB", ">>"})
	held(t, list{"i", "f"}, pair{"\x01a", "A", "=<"}, pair{"\x01b", "A", ">>"}, pair{"_", "a", ">>"})
	held(t, list{"d", "i", "f"}, pair{"\t-a", "A", "=<"}, pair{"\t-b", "A", ">>"})
}

func TestReverse(t *testing.T) {
	held(t, list{"r"},
		pair{"a", "b", ">>"},
		pair{"a", "ab", ">>"},
		pair{"", "a", ">>"},
		pair{"a", "a", "=="},
		pair{"\x7f", "\x80", ">>"},
	)
	held(t, list{"r", "f"}, pair{"a", "B", ">>"}, pair{"a", "A", "=<"})
	held(t, list{"k1fr"}, pair{"a", "B", ">>"}, pair{"a", "A", "=>"})
	held(t, list{"r", "k1f"}, pair{"a", "B", "<<"}, pair{"a", "A", "=<"})
	held(t, list{"r", "k2,2", "k1,1n"}, pair{"1 a", "2 b", ">>"}, pair{"1 a", "2 a", "<<"}, pair{"1 a", "01 a", "=<"})
	held(t, list{"k1,1r", "k2,2"}, pair{"a x", "b x", ">>"}, pair{"a x", "a y", "<<"}, pair{"a x 1", "a x 2", "=<"})
	held(t, list{"r", "k1,1r"}, pair{"a", "b", ">>"}, pair{"a 1", "a 2", "=>"})
}

// The first key by which lines differ tells, whatever the others would.
func TestSeveralKeys(t *testing.T) {
	held(t, list{"t:", "k2,2n", "k1,1f", "k3,3r"},
		pair{"a:1:x", "A:1:x", "=>"},
		pair{"a:01:x", "A:1:x", "=>"},
		pair{"z:1:a", "a:2:z", "<<"},
		pair{"b:1:a", "A:1:z", ">>"},
		pair{"a:1:a", "A:1:z", ">>"},
		pair{"a:1:a:1", "a:1:a:2", "=<"},
		pair{"a:1:a:1", "a:1:a:1", "=="},
		pair{"a:1", "A:1:", "=>"},
	)
	held(t, list{"k2,2", "k2,2r"}, pair{"a x", "a y", "<<"})
	held(t, list{"k2,2r", "k2,2"}, pair{"a x", "a y", ">>"})
	held(t, list{"k9", "k8", "k1,1"}, pair{"a", "b", "<<"}, pair{"a 2", "a 1", "=>"})
}
