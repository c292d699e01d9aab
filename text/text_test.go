package text_test

import (
	"bytes"
	"math"
	"math/big"
	"strconv"
	"strings"
	"testing"

	"toolchest/api"
	"toolchest/text"
)

// told writes a list out so that empty pieces and their number can be seen.
func told(list [][]byte) string {
	var s strings.Builder
	for _, b := range list {
		s.WriteString(strconv.Quote(string(b)))
	}
	return s.String()
}

// everyText calls f with all texts of these letters that are at most so long.
func everyText(letters string, most int, f func(string)) {
	var grow func(string)
	grow = func(s string) {
		f(s)
		if len(s) >= most {
			return
		}
		for _, c := range []byte(letters) {
			grow(s + string([]byte{c}))
		}
	}
	grow("")
}

// numbers are such as stand at edges, below 0 and above.
func numbers() []int {
	list := []int{0, math.MaxInt, math.MinInt, math.MaxInt - 1, math.MinInt + 1, api.MaxNum, api.MaxNum + 1}
	for power := 1; power < math.MaxInt/10; power *= 10 {
		list = append(list, power-1, power, power+1)
	}
	for power := 1; power < math.MaxInt/2; power *= 2 {
		list = append(list, power-1, power, power+1)
	}
	for _, n := range list {
		list = append(list, -n)
	}
	return list
}

// P1.1

func TestLines(t *testing.T) {
	for _, c := range []struct{ in, want string }{
		{"", ""},
		{"a", `"a"`},
		{"a\n", `"a"`},
		{"a\n\nb", `"a""""b"`},
		{"a\nb\n", `"a""b"`},
		{"\n", `""`},
		{"\n\n", `""""`},
		{"\na", `"""a"`},
		{"a\n\n", `"a"""`},
		{" \t", `" \t"`},
		{" a \n\tb\t\n ", `" a ""\tb\t"" "`},
		{"a\r\nb\vc\fd\x85\x00", `"a\r""b\vc\fd\x85\x00"`},
		{"\u2028\n\xff", "\"\\u2028\"\"\\xff\""},
	} {
		if got := told(text.Lines([]byte(c.in))); got != c.want {
			t.Errorf("Lines(%q): %s, want %s", c.in, got, c.want)
		}
	}
	if got := text.Lines(nil); len(got) != 0 {
		t.Errorf("Lines(nil): %s", told(got))
	}
}

func TestLinesOfEveryShortText(t *testing.T) {
	everyText("a\n ", 7, func(s string) {
		want := strings.Split(s, "\n")
		if want[len(want)-1] == "" {
			want = want[:len(want)-1]
		}
		got := text.Lines([]byte(s))
		if len(got) != len(want) {
			t.Fatalf("Lines(%q): %s", s, told(got))
		}
		for i := range got {
			if string(got[i]) != want[i] {
				t.Fatalf("Lines(%q): %s", s, told(got))
			}
		}
	})
}

func TestFields(t *testing.T) {
	for _, c := range []struct{ in, want string }{
		{"", ""},
		{" ", ""},
		{"\t", ""},
		{" \t \t", ""},
		{"a", `"a"`},
		{" a\tb ", `"a""b"`},
		{"ab \t cd", `"ab""cd"`},
		{"\n", `"\n"`},
		{"a\n b", `"a\n""b"`},
		{"a\rb\vc\fd\x00e\x85f\xa0g", `"a\rb\vc\fd\x00e\x85f\xa0g"`},
		{"a\u00a0b\u2003c", "\"a\\u00a0b\\u2003c\""},
	} {
		if got := told(text.Fields([]byte(c.in))); got != c.want {
			t.Errorf("Fields(%q): %s, want %s", c.in, got, c.want)
		}
	}
	if got := text.Fields(nil); len(got) != 0 {
		t.Errorf("Fields(nil): %s", told(got))
	}
}

func TestFieldsOfEveryShortText(t *testing.T) {
	blank := func(r rune) bool { return r == ' ' || r == '\t' }
	everyText("a \t\n", 6, func(s string) {
		want := strings.FieldsFunc(s, blank)
		got := text.Fields([]byte(s))
		if len(got) != len(want) {
			t.Fatalf("Fields(%q): %s", s, told(got))
		}
		for i := range got {
			if string(got[i]) != want[i] {
				t.Fatalf("Fields(%q): %s", s, told(got))
			}
		}
	})
}

// Each byte is looked at by itself: the cutting ones are byte 10, and the bytes 32 and 9.
func TestWhichBytesCut(t *testing.T) {
	for c := range 256 {
		b := []byte{'x', byte(c), 'y'}
		if got, want := len(text.Lines(b)) == 2, c == 10; got != want {
			t.Errorf("Lines cuts at byte %d: %v", c, got)
		}
		if got, want := len(text.Fields(b)) == 2, c == 32 || c == 9; got != want {
			t.Errorf("Fields cuts at byte %d: %v", c, got)
		}
	}
}

// P1.2

func TestNumber(t *testing.T) {
	greatest := strconv.Itoa(math.MaxInt)
	for _, c := range []struct {
		s    string
		most int
		n    int
		is   bool
	}{
		{"007", 9, 7, true},
		{"10", 9, 0, false},
		{"", 9, 0, false},
		{"9", 9, 9, true},
		{"10", 10, 10, true},
		{"11", 10, 0, false},
		{"0", 0, 0, true},
		{"000", 0, 0, true},
		{"1", 0, 0, false},
		{"5", 3, 0, false},
		{"0", -1, 0, false},
		{"", -1, 0, false},
		{"1", math.MinInt, 0, false},
		{"0", math.MinInt, 0, false},
		{"2147483647", api.MaxNum, api.MaxNum, true},
		{"2147483648", api.MaxNum, 0, false},
		{greatest, math.MaxInt, math.MaxInt, true},
		{greatest, math.MaxInt - 1, 0, false},
		{greatest + "0", math.MaxInt, 0, false},
		{"18446744073709551616", math.MaxInt, 0, false},
		{"18446744073709551621", math.MaxInt, 0, false},
		{strings.Repeat("0", 5000) + "42", 42, 42, true},
		{strings.Repeat("0", 5000) + "43", 42, 0, false},
		{strings.Repeat("0", 5000), 0, 0, true},
		{strings.Repeat("9", 5000), math.MaxInt, 0, false},
		{"89", 99, 89, true},
	} {
		if n, is := text.Number(c.s, c.most); n != c.n || is != c.is {
			t.Errorf("Number(%.30q, %d): %d, %v", c.s, c.most, n, is)
		}
	}
}

func TestOctal(t *testing.T) {
	for _, c := range []struct {
		s    string
		most int
		n    int
		is   bool
	}{
		{"644", 0o777, 0o644, true},
		{"0644", 0o777, 0o644, true},
		{"777", 0o777, 0o777, true},
		{"1000", 0o777, 0, false},
		{"10", 8, 8, true},
		{"10", 7, 0, false},
		{"7", 6, 0, false},
		{"8", 100, 0, false},
		{"9", 100, 0, false},
		{"18", 100, 0, false},
		{"81", 100, 0, false},
		{"", 9, 0, false},
		{"0", 0, 0, true},
		{"0", -1, 0, false},
		{"0", math.MinInt, 0, false},
		{"0o7", 100, 0, false},
		{"777777777777777777777", math.MaxInt, math.MaxInt, true},
		{"777777777777777777777", math.MaxInt - 1, 0, false},
		{"1000000000000000000000", math.MaxInt, 0, false},
		{"2000000000000000000005", math.MaxInt, 0, false},
		{strings.Repeat("0", 5000) + "17", 15, 15, true},
		{strings.Repeat("7", 5000), math.MaxInt, 0, false},
	} {
		if n, is := text.Octal(c.s, c.most); n != c.n || is != c.is {
			t.Errorf("Octal(%.30q, %d): %d, %v", c.s, c.most, n, is)
		}
	}
}

func TestWhatIsNoNumber(t *testing.T) {
	for _, s := range []string{
		"-1", "-0", "+1", " 1", "1 ", "1\n", "\t1", "1.0", "1e1", "0x1", "0b1", "1_0", "a", "1a", "a1", "-", "+",
		"1/", "1:", "/", ":", "\x00", "1\x00", "\xb1", "\u0661", "\uff11", "one",
	} {
		if n, is := text.Number(s, math.MaxInt); n != 0 || is {
			t.Errorf("Number(%q): %d, %v", s, n, is)
		}
		if n, is := text.Octal(s, math.MaxInt); n != 0 || is {
			t.Errorf("Octal(%q): %d, %v", s, n, is)
		}
	}
}

// Each most near a number is tried, against numbers of any size.
func TestNumbersAtTheirMost(t *testing.T) {
	for _, base := range []int{8, 10} {
		read := text.Number
		if base == 8 {
			read = text.Octal
		}
		for _, most := range numbers() {
			for more := int64(-20); more <= 20; more++ {
				n := new(big.Int).Add(big.NewInt(int64(most)), big.NewInt(more))
				if n.Sign() < 0 {
					continue
				}
				want, fits := 0, n.Cmp(big.NewInt(int64(most))) <= 0
				if fits {
					want = int(n.Int64())
				}
				s := "0" + n.Text(base)
				if got, is := read(s, most); got != want || is != fits {
					t.Errorf("to the base %d, %q, at most %d: %d, %v", base, s, most, got, is)
				}
			}
		}
	}
}

func TestSmallNumbers(t *testing.T) {
	everyText("0179", 4, func(s string) {
		for most := -2; most <= 120; most++ {
			ten, fail := strconv.ParseUint(s, 10, 64)
			checkRead(t, "Number", text.Number, s, most, int(ten), fail == nil)
			eight, fail := strconv.ParseUint(s, 8, 64)
			checkRead(t, "Octal", text.Octal, s, most, int(eight), fail == nil)
		}
	})
}

func checkRead(t *testing.T, name string, read func(string, int) (int, bool), s string, most, n int, digits bool) {
	t.Helper()
	fits := digits && n <= most
	if !fits {
		n = 0
	}
	if got, is := read(s, most); got != n || is != fits {
		t.Errorf("%s(%q, %d): %d, %v", name, s, most, got, is)
	}
}

// P1.3

func TestDigits(t *testing.T) {
	for _, c := range []struct {
		n, base int
		want    string
	}{
		{255, 16, "ff"},
		{-8, 8, "-10"},
		{0, 8, "0"},
		{0, 10, "0"},
		{0, 16, "0"},
		{-1, 10, "-1"},
		{1234567890, 10, "1234567890"},
		{0xabcdef, 16, "abcdef"},
		{-0xabcdef, 16, "-abcdef"},
		{0o7654321, 8, "7654321"},
		{math.MaxInt64, 16, "7fffffffffffffff"},
		{math.MaxInt64, 8, "777777777777777777777"},
		{math.MaxInt64, 10, "9223372036854775807"},
		{math.MinInt64, 16, "-8000000000000000"},
		{math.MinInt64, 8, "-1000000000000000000000"},
		{math.MinInt64, 10, "-9223372036854775808"},
	} {
		if got := text.Digits(c.n, c.base); got != c.want {
			t.Errorf("Digits(%d, %d): %q, want %q", c.n, c.base, got, c.want)
		}
	}
	for _, n := range numbers() {
		for _, base := range []int{8, 10, 16} {
			if got, want := text.Digits(n, base), big.NewInt(int64(n)).Text(base); got != want {
				t.Errorf("Digits(%d, %d): %q, want %q", n, base, got, want)
			}
		}
	}
}

func TestDigitsToOtherBases(t *testing.T) {
	bases := []int{math.MinInt, math.MaxInt, 64, 256, -256}
	for base := -40; base <= 40; base++ {
		bases = append(bases, base)
	}
	for _, base := range bases {
		if base == 8 || base == 10 || base == 16 {
			continue
		}
		for _, n := range []int{0, 3, -3, 255, math.MinInt} {
			if got := text.Digits(n, base); got != "" {
				t.Errorf("Digits(%d, %d): %q", n, base, got)
			}
		}
	}
}

// P1.4

var wantWords = map[api.Errno]string{
	api.ErrNoEnt:    "no such file",
	api.ErrExist:    "file exists",
	api.ErrNotDir:   "not a directory",
	api.ErrIsDir:    "is a directory",
	api.ErrNotEmpty: "directory not empty",
	api.ErrNoSpace:  "no space left",
	api.ErrIO:       "input/output error",
	api.ErrPipe:     "broken pipe",
	api.ErrIntr:     "interrupted",
	api.ErrAgain:    "not now",
	api.ErrBadFd:    "bad descriptor",
	api.ErrMany:     "too many",
	api.ErrName:     "bad name",
	api.ErrDepth:    "too deep",
	api.ErrBusy:     "busy",
	api.ErrInval:    "invalid",
	api.ErrArg:      "bad argument",
	api.ErrLine:     "line too long",
	api.ErrUsage:    "usage",
	api.ErrRegex:    "bad regular expression",
	api.ErrScript:   "bad script",
	api.ErrFound:    "not found",
	api.ErrSame:     "same file",
	api.ErrSyntax:   "bad syntax",
	api.ErrNumber:   "not a number",
	api.ErrOrder:    "not in order",
}

func TestWord(t *testing.T) {
	if len(wantWords) != 26 {
		t.Fatalf("%d words", len(wantWords))
	}
	errnos := []api.Errno{math.MinInt, math.MaxInt, 256, 257, 1 << 32, 1<<32 + 1, -1 << 32}
	for e := api.Errno(-100); e <= 100; e++ {
		errnos = append(errnos, e)
	}
	for _, e := range errnos {
		want, known := wantWords[e]
		if !known {
			want = "error"
		}
		if got := text.Word(e); got != want {
			t.Errorf("Word(%d): %q, want %q", e, got, want)
		}
	}
}

func TestDiag(t *testing.T) {
	for _, c := range []struct {
		tag, operand string
		e            api.Errno
		want         string
	}{
		{"cat", "x", api.ErrNoEnt, "cat: x: no such file\n"},
		{"sort", "", api.ErrUsage, "sort: usage\n"},
		{"", "", api.ErrIO, ": input/output error\n"},
		{"", "x", api.ErrIO, ": x: input/output error\n"},
		{"a", " ", api.ErrOrder, "a:  : not in order\n"},
		{"a: b", "c\nd", api.ErrBusy, "a: b: c\nd: busy\n"},
		{"a", "\xff\x00", api.ErrName, "a: \xff\x00: bad name\n"},
		{"a", "%s", api.OK, "a: %s: error\n"},
		{"a", "", api.OK, "a: error\n"},
		{"a", "b", -1, "a: b: error\n"},
		{"a", "b", 27, "a: b: error\n"},
		{"a", "", math.MinInt, "a: error\n"},
		{"a", "", math.MaxInt, "a: error\n"},
	} {
		if got := text.Diag(c.tag, c.operand, c.e); string(got) != c.want {
			t.Errorf("Diag(%q, %q, %d): %q, want %q", c.tag, c.operand, c.e, got, c.want)
		}
	}
	for e, word := range wantWords {
		if got, want := string(text.Diag("t", "o", e)), "t: o: "+word+"\n"; got != want {
			t.Errorf("Diag of %d: %q, want %q", e, got, want)
		}
	}
}

// P1.5

func TestLinesMakeTheBytes(t *testing.T) {
	everyText("a\n\t\xff", 6, func(s string) {
		var whole []byte
		for _, line := range text.Lines([]byte(s)) {
			whole = append(append(whole, line...), '\n')
		}
		want := s
		if s != "" && !strings.HasSuffix(s, "\n") {
			want += "\n"
		}
		if string(whole) != want {
			t.Fatalf("of %q: %q", s, whole)
		}
	})
}

func TestDigitsAreReadAsTheNumber(t *testing.T) {
	for _, n := range numbers() {
		if n < 0 {
			continue
		}
		for _, most := range []int{n, math.MaxInt} {
			if got, is := text.Number(text.Digits(n, 10), most); got != n || !is {
				t.Errorf("%d at most %d is read as %d, %v", n, most, got, is)
			}
			if got, is := text.Octal(text.Digits(n, 8), most); got != n || !is {
				t.Errorf("%d to the base eight, at most %d, is read as %d, %v", n, most, got, is)
			}
		}
	}
}

// R4

// room is a list with bytes behind its end that are not its own.
func room(s string) (list, all []byte) {
	all = append([]byte(s), "behind the end"...)
	return all[:len(s)], all
}

func fill(b []byte, c byte) {
	for i := range b {
		b[i] = c
	}
}

func cutters() map[string]func([]byte) [][]byte {
	return map[string]func([]byte) [][]byte{"Lines": text.Lines, "Fields": text.Fields}
}

func TestWhatIsHandedInIsNeitherChangedNorKept(t *testing.T) {
	const s = "one two\n\n three\tfour\nfive"
	for name, cut := range cutters() {
		in, all := room(s)
		before := bytes.Clone(all)
		got := cut(in)
		want := told(got)
		if !bytes.Equal(all, before) {
			t.Errorf("%s has changed what was handed in: %q", name, all)
		}
		fill(all, '#')
		if told(got) != want {
			t.Errorf("%s has kept what was handed in: %s", name, told(got))
		}
	}
}

// Each piece is written over, its spare room too: nothing else may change by it.
func TestWhatIsAnsweredIsNewMemory(t *testing.T) {
	const s = "one two\n\n three\tfour\nfive \n"
	for name, cut := range cutters() {
		in, all := room(s)
		before := bytes.Clone(all)
		other := cut(in)
		want := told(other)
		got := cut(in)
		for i, piece := range got {
			others := told(got[:i]) + told(got[i+1:])
			fill(piece[:cap(piece)], byte('A'+i))
			if told(got[:i])+told(got[i+1:]) != others {
				t.Errorf("%s: piece %d shares memory with another one", name, i)
			}
		}
		clear(got[:cap(got)])
		if !bytes.Equal(all, before) {
			t.Errorf("%s shares memory with what was handed in: %q", name, all)
		}
		if told(other) != want {
			t.Errorf("%s shares memory with another answer: %s", name, told(other))
		}
		if again := told(cut(in)); again != want {
			t.Errorf("%s answers otherwise by now: %s", name, again)
		}
	}
}

// Pieces grow into their own room alone.
func TestPiecesGrowApart(t *testing.T) {
	for name, cut := range cutters() {
		in, all := room("ab\ncd ef\ngh ij")
		before := bytes.Clone(all)
		got := cut(in)
		want := told(got)
		for i := range got {
			_ = append(got[i], "#########"...)
		}
		if told(got) != want || !bytes.Equal(all, before) {
			t.Errorf("%s: %s of %q", name, told(got), all)
		}
	}
}

func TestDiagIsNewMemory(t *testing.T) {
	one := text.Diag("cat", "x", api.ErrNoEnt)
	two := text.Diag("cat", "x", api.ErrNoEnt)
	fill(one[:cap(one)], '#')
	if string(two) != "cat: x: no such file\n" {
		t.Errorf("it shares memory with another answer: %q", two)
	}
	if got := text.Word(api.ErrNoEnt); got != "no such file" {
		t.Errorf("it shares memory with what Word keeps: %q", got)
	}
	if got := text.Diag("cat", "x", api.ErrNoEnt); string(got) != "cat: x: no such file\n" {
		t.Errorf("it answers otherwise by now: %q", got)
	}
}
