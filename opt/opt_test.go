package opt_test

import (
	"slices"
	"strconv"
	"strings"
	"testing"

	"toolchest/api"
	"toolchest/opt"
)

// told writes an answer out: each option as its letter and its argument, a bar, each operand.
func told(opts []api.Opt, operands []string) string {
	var parts []string
	for _, o := range opts {
		parts = append(parts, strconv.Quote(string([]byte{o.Letter}))+"="+strconv.Quote(o.Arg))
	}
	parts = append(parts, "|")
	for _, s := range operands {
		parts = append(parts, strconv.Quote(s))
	}
	return strings.Join(parts, " ")
}

// parts fails, if Parse does not answer these options and operands.
func parts(t *testing.T, args []string, spec string, opts []api.Opt, operands []string) {
	t.Helper()
	gotOpts, gotOperands, e := opt.Parse(args, spec)
	if got, want := told(gotOpts, gotOperands), told(opts, operands); e != api.OK || got != want {
		t.Errorf("Parse(%q, %q): %s, %d, want %s", args, spec, got, e, want)
	}
}

// refuses fails, if Parse does not answer ErrUsage and nothing else.
func refuses(t *testing.T, args []string, spec string) {
	t.Helper()
	opts, operands, e := opt.Parse(args, spec)
	if e != api.ErrUsage || len(opts) != 0 || len(operands) != 0 {
		t.Errorf("Parse(%q, %q): %s, %d, want ErrUsage alone", args, spec, told(opts, operands), e)
	}
}

// o is an option, by its letter and its argument.
func o(letter byte, arg string) api.Opt { return api.Opt{Letter: letter, Arg: arg} }

type (
	list    = []string
	options = []api.Opt
)

func TestExamples(t *testing.T) {
	parts(t, list{"-ab", "-n5", "x", "-a"}, "abn:", options{o('a', ""), o('b', ""), o('n', "5")}, list{"x", "-a"})
	parts(t, list{"-n", "-a", "--", "-b"}, "abn:", options{o('n', "-a")}, list{"-b"})
	refuses(t, list{"-c"}, "ab")
	refuses(t, list{"-an"}, "abn:")
}

// P6.1

func TestSpecs(t *testing.T) {
	for _, c := range []struct {
		spec  string
		plain string // letters without an argument
		with  string // letters with one
	}{
		{"", "", ""},
		{"a", "a", ""},
		{"a:", "", "a"},
		{"ab", "ab", ""},
		{"a:b", "b", "a"},
		{"ab:", "a", "b"},
		{"a:b:", "", "ab"},
		{"b:ac:", "a", "bc"},
		{":", "", ""},
		{"::", "", ""},
		{":a", "a", ""},
		{":a:", "", "a"},
		{"::ab", "ab", ""},
		{"a::", "", "a"},
		{"a::b", "b", "a"},
		{"a:::b::c", "c", "ab"},
		{"aa", "a", ""},
		{"aa:", "a", ""},
		{"a:a", "", "a"},
		{"a:a:", "", "a"},
		{"aba:", "ab", ""},
		{"a:ba", "b", "a"},
		{"aa:b", "ab", ""},
		{"a:ab", "b", "a"},
		{"-", "", ""},
		{"-a", "a", ""},
		{"-:a", "a", ""},
		{"a-:b", "ab", ""},
		{"a-b:", "a", "b"},
		{"a:-:b", "b", "a"},
		{"\xc3\xa9:", "\xc3", "\xa9"},
		{"\xa9:\x00", "\x00", "\xa9"},
		{" \n:", " ", "\n"},
	} {
		for b := range 256 {
			letter := byte(b)
			group := "-" + string([]byte{letter})
			switch {
			case letter == '-':
				parts(t, list{group}, c.spec, nil, nil)
				refuses(t, list{"--x"}, c.spec)
			case strings.IndexByte(c.plain, letter) >= 0:
				parts(t, list{group, "x"}, c.spec, options{o(letter, "")}, list{"x"})
				parts(t, list{group}, c.spec, options{o(letter, "")}, nil)
			case strings.IndexByte(c.with, letter) >= 0:
				parts(t, list{group, "x", "y"}, c.spec, options{o(letter, "x")}, list{"y"})
				refuses(t, list{group}, c.spec)
			default:
				refuses(t, list{group, "x"}, c.spec)
			}
		}
	}
}

// A letter is any byte but two, by itself: those that are no ASCII too.
func TestEveryByteAsALetter(t *testing.T) {
	for b := range 256 {
		letter := byte(b)
		spec := string([]byte{letter})
		twice := "-" + spec + spec
		if letter == ':' || letter == '-' {
			refuses(t, list{twice}, spec)
			refuses(t, list{"-a" + spec}, spec+"a")
			refuses(t, list{"-a" + spec}, spec+":a")
			continue
		}
		parts(t, list{twice, "x"}, spec, options{o(letter, ""), o(letter, "")}, list{"x"})
		parts(t, list{twice, "x"}, spec+":", options{o(letter, spec)}, list{"x"})
	}
}

// P6.2

// call is what Parse is given and answers, by the spec `abn:`.
type call struct {
	args     list
	opts     options
	operands list
}

func partsAll(t *testing.T, calls []call) {
	t.Helper()
	for _, c := range calls {
		parts(t, c.args, "abn:", c.opts, c.operands)
	}
}

func TestOperands(t *testing.T) {
	partsAll(t, []call{
		{nil, nil, nil},
		{list{}, nil, nil},
		{list{""}, nil, list{""}},
		{list{"", "-a"}, nil, list{"", "-a"}},
		{list{"-a", "", "-b"}, options{o('a', "")}, list{"", "-b"}},
		{list{"-"}, nil, list{"-"}},
		{list{"-", "-a", "--"}, nil, list{"-", "-a", "--"}},
		{list{"-a", "-", "-b"}, options{o('a', "")}, list{"-", "-b"}},
		{list{"x"}, nil, list{"x"}},
		{list{"a", "b"}, nil, list{"a", "b"}},
		{list{"x-a"}, nil, list{"x-a"}},
		{list{" -a"}, nil, list{" -a"}},
		{list{"x", "-c", "-n"}, nil, list{"x", "-c", "-n"}},
		{list{"-a", "x", "--", "-b"}, options{o('a', "")}, list{"x", "--", "-b"}},
		{list{"\xe2\x88\x92a"}, nil, list{"\xe2\x88\x92a"}},
	})
}

func TestTwoDashes(t *testing.T) {
	partsAll(t, []call{
		{list{"--"}, nil, nil},
		{list{"--", "-a", "x"}, nil, list{"-a", "x"}},
		{list{"--", "--"}, nil, list{"--"}},
		{list{"--", "--", "--"}, nil, list{"--", "--"}},
		{list{"--", "-"}, nil, list{"-"}},
		{list{"--", ""}, nil, list{""}},
		{list{"--", "-c", "-n"}, nil, list{"-c", "-n"}},
		{list{"-a", "--", "-b"}, options{o('a', "")}, list{"-b"}},
		{list{"-a", "--"}, options{o('a', "")}, nil},
		{list{"-n", "--", "-b"}, options{o('n', "--"), o('b', "")}, nil},
		{list{"-n", "--", "--", "-b"}, options{o('n', "--")}, list{"-b"}},
		{list{"-n--", "-b"}, options{o('n', "--"), o('b', "")}, nil},
		{list{"x", "--", "-a"}, nil, list{"x", "--", "-a"}},
		{list{"-", "--", "-a"}, nil, list{"-", "--", "-a"}},
	})
}

func TestGroupsAndArguments(t *testing.T) {
	partsAll(t, []call{
		{list{"-a"}, options{o('a', "")}, nil},
		{list{"-ab"}, options{o('a', ""), o('b', "")}, nil},
		{list{"-ba"}, options{o('b', ""), o('a', "")}, nil},
		{list{"-aab", "-a"}, options{o('a', ""), o('a', ""), o('b', ""), o('a', "")}, nil},
		{list{"-a", "-b", "x"}, options{o('a', ""), o('b', "")}, list{"x"}},
		{list{"-n5"}, options{o('n', "5")}, nil},
		{list{"-n", "5"}, options{o('n', "5")}, nil},
		{list{"-n", "5", "6"}, options{o('n', "5")}, list{"6"}},
		{list{"-anb"}, options{o('a', ""), o('n', "b")}, nil},
		{list{"-ana", "-b"}, options{o('a', ""), o('n', "a"), o('b', "")}, nil},
		{list{"-abn", "-b", "-b"}, options{o('a', ""), o('b', ""), o('n', "-b"), o('b', "")}, nil},
		{list{"-nn", "x"}, options{o('n', "n")}, list{"x"}},
		{list{"-n", "-n", "-n", "-n"}, options{o('n', "-n"), o('n', "-n")}, nil},
		{list{"-n", "-", "-a"}, options{o('n', "-"), o('a', "")}, nil},
		{list{"-n-", "-a"}, options{o('n', "-"), o('a', "")}, nil},
		{list{"-n-a", "x"}, options{o('n', "-a")}, list{"x"}},
		{list{"-n", "", "-a"}, options{o('n', ""), o('a', "")}, nil},
		{list{"-n", ""}, options{o('n', "")}, nil},
		{list{"-n", "-c", "x"}, options{o('n', "-c")}, list{"x"}},
		{list{"-nc:"}, options{o('n', "c:")}, nil},
		{list{"-n:", "x"}, options{o('n', ":")}, list{"x"}},
		{list{"-n5", "-a", "-n", "6"}, options{o('n', "5"), o('a', ""), o('n', "6")}, nil},
		{list{"-n\xff\x00\n"}, options{o('n', "\xff\x00\n")}, nil},
		{list{"-n", "-é"}, options{o('n', "-é")}, nil},
		{list{"-n=5"}, options{o('n', "=5")}, nil},
		{list{"-n 5"}, options{o('n', " 5")}, nil},
	})
}

func TestUsageErrors(t *testing.T) {
	for _, args := range []list{
		{"-c"},
		{"-A"},
		{"-ac"},
		{"-abc", "x"},
		{"-ca"},
		{"-a", "-b", "-c", "x"},
		{"-n5", "-c"},
		{"-n", "5", "-c", "--", "x"},
		{"-:"},
		{"-a:"},
		{"-a:b"},
		{"-a-"},
		{"-a-b"},
		{"-a--"},
		{"---"},
		{"--a"},
		{"--n", "5"},
		{"--n=5"},
		{"-- "},
		{"- "},
		{"-a "},
		{"-a b"},
		{"-\x00"},
		{"-a\xff"},
		{"-é"},
		{"-5"},
		{"-n"},
		{"-an"},
		{"-abn"},
		{"-a", "-n"},
		{"-n5", "-n"},
		{"-n", "-n", "-n"},
		{"-n", "--", "-n"},
	} {
		refuses(t, args, "abn:")
	}
}

// model peels one letter after the other off the first argument.
func model(args list, spec string) (options, list, bool) {
	if len(args) == 0 || args[0] == "-" || !strings.HasPrefix(args[0], "-") {
		return nil, args, true
	}
	if args[0] == "--" {
		return nil, args[1:], true
	}
	letter, rest, behind := args[0][1], args[0][2:], args[1:]
	at := strings.IndexByte(spec, letter)
	if letter == '-' || letter == ':' || at < 0 {
		return nil, nil, false
	}
	option := api.Opt{Letter: letter}
	switch hasArgument := at+1 < len(spec) && spec[at+1] == ':'; {
	case hasArgument && rest != "":
		option.Arg = rest
	case hasArgument && len(behind) == 0:
		return nil, nil, false
	case hasArgument:
		option.Arg, behind = behind[0], behind[1:]
	case strings.HasPrefix(rest, "-"):
		return nil, nil, false // what is left would read as two dashes
	case rest != "":
		behind = append(list{"-" + rest}, behind...)
	}
	more, operands, ok := model(behind, spec)
	if !ok {
		return nil, nil, false
	}
	return append(options{option}, more...), operands, true
}

// everyText are all texts of these bytes that are at most so long.
func everyText(bytes string, most int) list {
	texts := list{""}
	for at := 0; at < len(texts); at++ {
		if len(texts[at]) == most {
			break
		}
		for i := range len(bytes) {
			texts = append(texts, texts[at]+bytes[i:i+1])
		}
	}
	return texts
}

// everyCall calls f with all lists of these arguments that are at most so long, and each of these specs.
func everyCall(args list, most int, specs list, f func(list, string)) {
	var grow func(list)
	grow = func(l list) {
		for _, spec := range specs {
			f(l, spec)
		}
		if len(l) == most {
			return
		}
		for _, arg := range args {
			grow(append(slices.Clone(l), arg))
		}
	}
	grow(nil)
}

func held(t *testing.T) func(list, string) {
	return func(args list, spec string) {
		if opts, operands, ok := model(args, spec); ok {
			parts(t, args, spec, opts, operands)
		} else {
			refuses(t, args, spec)
		}
	}
}

func TestEveryShortCall(t *testing.T) {
	everyCall(everyText("-an:", 3), 2, list{"", "a", "an:", "n:a", "a:n:", "-a:", ":a::nn:"}, held(t))
	everyCall(list{"", "-", "--", "-a", "-n", "-an", "-na", "-c", "a"}, 4, list{"a", "an:", "a:n"}, held(t))
}

func TestEveryShortSpec(t *testing.T) {
	everyCall(list{"-a", "-b", "-ab", "-ba", "x"}, 2, everyText("ab:-", 5), held(t))
}

func TestManyArguments(t *testing.T) {
	const many = 100000
	var args, operands list
	var want options
	for i := range many {
		n := strconv.Itoa(i)
		args = append(args, "-an"+n, "-n", n)
		want = append(want, o('a', ""), o('n', n), o('n', n))
		operands = append(operands, n)
	}
	parts(t, append(args, operands...), "an:", want, operands)
	parts(t, list{"-" + strings.Repeat("a", many)}, "an:", slices.Repeat(options{o('a', "")}, many), nil)
}

// P6.3

func TestHasAndLast(t *testing.T) {
	several := options{o('a', ""), o('n', "5"), o('n', ""), o('m', "x"), o('n', "6"), o('m', ""), o(0, "zero"), o(0xff, "high"), o(':', "c"), o('-', "d")}
	for _, c := range []struct {
		l      options
		letter byte
		arg    string
		is     bool
	}{
		{nil, 'a', "", false},
		{nil, 0, "", false},
		{options{}, 'a', "", false},
		{options{}, 0, "", false},
		{options{o('a', "")}, 'a', "", true},
		{options{o('a', "")}, 'A', "", false},
		{options{o('a', "")}, 0, "", false},
		{options{o('a', "x")}, 'b', "", false},
		{options{o('a', "x")}, 'x', "", false},
		{options{o('a', "x")}, 'a', "x", true},
		{options{o('a', "x"), o('a', "y")}, 'a', "y", true},
		{options{o('a', "x"), o('a', "")}, 'a', "", true},
		{options{o('a', ""), o('a', "x")}, 'a', "x", true},
		{options{o('a', "x"), o('b', "y")}, 'a', "x", true},
		{several, 'a', "", true},
		{several, 'n', "6", true},
		{several, 'm', "", true},
		{several, 0, "zero", true},
		{several, 0xff, "high", true},
		{several, 0x7f, "", false},
		{several, ':', "c", true},
		{several, '-', "d", true},
		{several, 'b', "", false},
	} {
		if is := opt.Has(c.l, c.letter); is != c.is {
			t.Errorf("Has(%v, %q): %v", c.l, c.letter, is)
		}
		if arg, is := opt.Last(c.l, c.letter); arg != c.arg || is != c.is {
			t.Errorf("Last(%v, %q): %q, %v, want %q, %v", c.l, c.letter, arg, is, c.arg, c.is)
		}
	}
}

func TestHasAndLastOfWhatParseAnswers(t *testing.T) {
	l, _, e := opt.Parse(list{"-an5", "-n", "-b", "-m", "", "-n7", "x", "-b", "-n8"}, "abn:m:")
	if e != api.OK {
		t.Fatalf("Parse: %d", e)
	}
	for _, c := range []struct {
		letter byte
		arg    string
		is     bool
	}{
		{'a', "", true},
		{'b', "", false},
		{'n', "7", true},
		{'m', "", true},
		{'x', "", false},
	} {
		if arg, is := opt.Last(l, c.letter); arg != c.arg || is != c.is || opt.Has(l, c.letter) != c.is {
			t.Errorf("%q: %q, %v, Has %v", c.letter, arg, is, opt.Has(l, c.letter))
		}
	}
}

// P6.4

// same fails, if two lists of arguments are not parted alike.
func same(t *testing.T, spec string, one, other list) {
	t.Helper()
	a, b, e := opt.Parse(one, spec)
	c, d, f := opt.Parse(other, spec)
	if e != f || told(a, b) != told(c, d) {
		t.Errorf("spec %q: %q is %s, %d, but %q is %s, %d", spec, one, told(a, b), e, other, told(c, d), f)
	}
}

func TestAGroupIsTheSameAsEachAlone(t *testing.T) {
	for _, group := range everyText("abcn", 4)[1:] {
		alone := list{}
		for i := range len(group) {
			alone = append(alone, "-"+group[i:i+1])
			if group[i] == 'n' {
				if arg := group[i+1:]; arg != "" {
					alone = append(alone, arg)
				}
				break
			}
		}
		for _, behind := range []list{nil, {"x"}, {"-b"}, {"--", "-a"}, {"-", "-a"}, {"-c"}, {"-n"}, {""}} {
			same(t, "abn:", append(list{"-" + group}, behind...), append(slices.Clone(alone), behind...))
		}
	}
}

func TestAnArgumentInTheSameTextOrBehindIt(t *testing.T) {
	for _, arg := range everyText("-an:\xff", 3)[1:] {
		for _, behind := range []list{nil, {"x"}, {"-a"}, {"--", "-a"}, {"-c"}, {"-n"}} {
			same(t, "an:", append(list{"-n" + arg}, behind...), append(list{"-n", arg}, behind...))
			same(t, "an:", append(list{"-an" + arg}, behind...), append(list{"-an", arg}, behind...))
			same(t, "an:", append(list{"-an" + arg}, behind...), append(list{"-a", "-n", arg}, behind...))
		}
	}
}

func TestBehindTwoDashesNothingIsAnOption(t *testing.T) {
	everyCall(list{"", "-", "--", "-a", "-n", "-c", "x"}, 3, list{"", "an:"}, func(args list, spec string) {
		parts(t, append(list{"--"}, args...), spec, nil, args)
		if spec == "an:" {
			parts(t, append(list{"-an", "5", "--"}, args...), spec, options{o('a', ""), o('n', "5")}, args)
		}
	})
}

// R4

// calls are such as end in each of Parse's ways, with options alone, operands alone, both, and an error.
func calls() []list {
	return []list{
		{"-a", "-n", "5", "x", "y"},
		{"-an5", "--", "x", "-b"},
		{"-a", "-b", "-n", "z"},
		{"x", "y", "z"},
		{"--", "x"},
		{"--"},
		{"-a", "-n"},
		{"-a", "-c", "x"},
		{},
	}
}

// room is a list with texts behind its end that are not its own.
func room(l list) (own, all list) {
	all = append(slices.Clone(l), "-a", "behind", "the end")
	return all[:len(l)], all
}

func TestWhatIsHandedInIsNeitherChangedNorKept(t *testing.T) {
	for _, args := range calls() {
		own, all := room(args)
		before := slices.Clone(all)
		l, operands, _ := opt.Parse(own, "abn:")
		want := told(l, operands)
		if !slices.Equal(all, before) {
			t.Errorf("Parse(%q) has changed what was handed in: %q", before, all)
		}
		for i := range all {
			all[i] = "#"
		}
		if got := told(l, operands); got != want {
			t.Errorf("Parse(%q) has kept what was handed in: %s, not %s", args, got, want)
		}
	}
}

// What stands behind a list's end is no argument: not even one that is wanted.
func TestTheRoomBehindTheEndIsNotRead(t *testing.T) {
	own, _ := room(list{"-a", "-n"})
	refuses(t, own, "an:")
	own, _ = room(list{"-a"})
	parts(t, own, "an:", options{o('a', "")}, nil)
}

// An answer is written over, its spare room too: nothing else may change by it.
func TestWhatIsAnsweredIsNewMemory(t *testing.T) {
	for _, args := range calls() {
		own, all := room(args)
		before := slices.Clone(all)
		l, operands, _ := opt.Parse(own, "abn:")
		other, others, _ := opt.Parse(own, "abn:")
		want := told(l, operands)
		for i := range cap(other) {
			other[:cap(other)][i] = o('#', "#")
		}
		for i := range cap(others) {
			others[:cap(others)][i] = "#"
		}
		if got := told(l, operands); got != want {
			t.Errorf("Parse(%q): two answers share memory: %s, not %s", args, got, want)
		}
		if !slices.Equal(all, before) {
			t.Errorf("Parse(%q): an answer shares memory with what was handed in: %q", before, all)
		}
	}
}

func TestHasAndLastChangeNothing(t *testing.T) {
	all := options{o('a', "x"), o('b', ""), o('a', "y"), o('c', "behind the end")}
	before := slices.Clone(all)
	l := all[:3]
	for _, letter := range []byte("abcd") {
		opt.Has(l, letter)
		opt.Last(l, letter)
	}
	if !slices.Equal(all, before) {
		t.Errorf("what was handed in has changed: %v", all)
	}
	if arg, is := opt.Last(l, 'c'); arg != "" || is || opt.Has(l, 'c') {
		t.Errorf("what stands behind the end was found: %q, %v", arg, is)
	}
}
