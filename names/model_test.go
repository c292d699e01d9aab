package names_test

import (
	"math/big"
	"regexp"
	"strconv"
	"strings"
	"testing"

	"toolchest/api"
)

// The model cuts texts by the library's expressions, and reckons with its great numbers.

var (
	escapeForm     = regexp.MustCompile(`^\\(?:([\\abfnrtv])|([0-7]{1,3}))`)
	longEscape     = regexp.MustCompile(`^\\0([0-7]{1,3})`)
	conversionForm = regexp.MustCompile(`^%([-+ 0#]*)([1-9][0-9]*)?(?:(\.)([0-9]*))?([scbdiuoxX])`)
	numberForm     = regexp.MustCompile(`^([-+]?)(?:0[xX]([0-9a-fA-F]+)|(0[0-7]*)|([1-9][0-9]*))$`)
	byteForm       = regexp.MustCompile(`^(?s)['"](.?)$`)
)

// said is what a job comes to without faults: lines of errors by their operands and words, what is told, the status.
type said struct {
	errs   []string
	out    string
	status int
}

func wrong(lines ...string) said { return said{errs: lines, status: 1} }

// operandsOf are the operands of what has no options.
func operandsOf(args []string) ([]string, bool) {
	if len(args) > 0 && args[0] == "--" {
		return args[1:], true
	}
	return args, len(args) == 0 || args[0] == "-" || !strings.HasPrefix(args[0], "-")
}

// pure is what comes of arguments.
func pure(args []string) said {
	name, args := args[0], args[1:]
	switch name {
	case "true":
		return said{}
	case "false":
		return said{status: 1}
	case "echo":
		return said{out: strings.Join(args, " ") + "\n"}
	}
	l, ok := operandsOf(args)
	switch {
	case !ok || len(l) == 0:
	case name == "printf":
		return printed(l[0], l[1:])
	case name == "dirname" && len(l) == 1:
		return said{out: modelDir(l[0]) + "\n"}
	case name == "basename" && len(l) == 1:
		return said{out: modelBase(l[0], "") + "\n"}
	case name == "basename" && len(l) == 2:
		return said{out: modelBase(l[0], l[1]) + "\n"}
	}
	return wrong("usage")
}

// pieceOf is what stands at the beginning of a text, an escape or a byte, and how long it is there; isArg: as b reads it.
func pieceOf(s string, isArg bool) (string, int) {
	digits := func(m []string) (string, int) {
		n, _ := strconv.ParseUint(m[len(m)-1], 8, 16)
		return string([]byte{byte(n % 256)}), len(m[0])
	}
	if m := longEscape.FindStringSubmatch(s); isArg && m != nil {
		return digits(m)
	}
	m := escapeForm.FindStringSubmatch(s)
	switch {
	case s[0] != '\\':
		return s[:1], 1
	case m == nil:
		n := min(2, len(s))
		return s[:n], n
	case m[1] == "":
		return digits(m)
	}
	return map[string]string{`\`: "\x5c", "a": "\x07", "b": "\x08", "f": "\x0c", "n": "\x0a", "r": "\x0d", "t": "\x09", "v": "\x0b"}[m[1]], 2
}

// unescape is what an argument of b says; true: it ends all.
func unescape(s string) (string, bool) {
	var out string
	for s != "" && !strings.HasPrefix(s, `\c`) {
		piece, n := pieceOf(s, true)
		out, s = out+piece, s[n:]
	}
	return out, s != ""
}

// cut parts a FORMAT into conversions, as the expression finds them, and what stands ahead of each, and at the end.
func cut(s string) (l [][]string, ok bool) {
	var plain string
	for s != "" {
		m := conversionForm.FindStringSubmatch(s)
		switch {
		case strings.HasPrefix(s, "%%"):
			plain, s = plain+"%", s[2:]
		case m != nil:
			for _, digits := range []string{m[2], m[4]} {
				if n := strings.TrimLeft(digits, "0"); len(n) > 4 || len(n) == 4 && n > "1000" {
					return nil, false
				}
			}
			l = append(l, []string{plain}, m)
			plain, s = "", s[len(m[0]):]
		case s[0] == '%':
			return nil, false
		default:
			piece, n := pieceOf(s, false)
			plain, s = plain+piece, s[n:]
		}
	}
	return append(l, []string{plain}), true
}

// valueOf is the number of an argument.
func valueOf(arg string) (*big.Int, bool) {
	n := new(big.Int)
	if arg == "" {
		return n, true
	}
	if len(arg) <= 2 && byteForm.MatchString(arg) {
		for _, c := range []byte(arg[1:]) {
			n.SetInt64(int64(c))
		}
		return n, true
	}
	m := numberForm.FindStringSubmatch(arg)
	if m == nil {
		return n, false
	}
	for i, base := range []int{16, 8, 10} {
		if digits := m[i+2]; digits != "" {
			n.SetString(digits, base)
		}
	}
	if m[1] == "-" {
		n.Neg(n)
	}
	if !n.IsInt64() {
		return new(big.Int), false
	}
	return n, true
}

// widened is a text with fill put in at a place till it is so wide.
func widened(s string, at, width int, fill string) string {
	for len(s) < width {
		s = s[:at] + fill + s[at:]
	}
	return s
}

// numeral is how a number is told.
func numeral(n *big.Int, flags, letter string, width, precision int) string {
	base, ahead := 10, ""
	switch {
	case strings.Contains("di", letter):
		if n.Sign() < 0 {
			ahead = "-"
		} else if strings.Contains(flags, "+") {
			ahead = "+"
		} else if strings.Contains(flags, " ") {
			ahead = " "
		}
	case n.Sign() < 0:
		n = new(big.Int).Add(n, new(big.Int).Lsh(big.NewInt(1), 64))
	}
	switch letter {
	case "o":
		base = 8
	case "x", "X":
		base = 16
	}
	digits := new(big.Int).Abs(n).Text(base)
	if digits == "0" && precision == 0 {
		digits = ""
	}
	digits = widened(digits, 0, precision, "0")
	if strings.Contains(flags, "#") {
		if base == 8 && (digits == "" || digits[0] != '0') {
			digits = "0" + digits
		}
		if base == 16 && n.Sign() != 0 {
			ahead = "0x"
		}
	}
	s := ahead + digits
	switch {
	case strings.Contains(flags, "-"):
		s = widened(s, len(s), width, " ")
	case strings.Contains(flags, "0") && precision < 0:
		s = widened(s, len(ahead), width, "0")
	default:
		s = widened(s, 0, width, " ")
	}
	if letter == "X" {
		s = strings.ToUpper(s)
	}
	return s
}

// printed is what printf comes to.
func printed(format string, args []string) said {
	parts, ok := cut(format)
	if !ok {
		return wrong("usage")
	}
	var r said
	for {
		before := len(args)
		for _, m := range parts {
			if len(m) == 1 {
				r.out += m[0]
				continue
			}
			arg := ""
			if len(args) > 0 {
				arg, args = args[0], args[1:]
			}
			flags, letter, precision := m[1], m[5], -1
			width, _ := strconv.Atoi(m[2])
			if m[3] != "" {
				precision, _ = strconv.Atoi(m[4])
			}
			if !strings.Contains("scb", letter) {
				n, ok := valueOf(arg)
				if !ok {
					r.errs, r.status = append(r.errs, arg+": not a number"), 1
				}
				r.out += numeral(n, flags, letter, width, precision)
				continue
			}
			ends := false
			switch {
			case letter == "c" && arg != "":
				arg, precision = arg[:1], -1
			case letter == "b":
				arg, ends = unescape(arg)
			}
			if precision >= 0 && precision < len(arg) {
				arg = arg[:precision]
			}
			at := 0
			if strings.Contains(flags, "-") {
				at = len(arg)
			}
			r.out += widened(arg, at, width, " ")
			if ends {
				return r
			}
		}
		if len(args) == 0 || len(args) == before {
			return r
		}
	}
}

// wire is where transfers go, with the faults that are left.
type wire struct {
	faults []api.Fault
	steps  int
}

// write is how much of a text gets through, and what is said of what does not.
func (w *wire) write(s string) (string, string) {
	got := ""
	for got != s {
		w.steps++
		f := api.Fault{}
		if len(w.faults) > 0 {
			f, w.faults = w.faults[0], w.faults[1:]
		}
		left := len(s) - len(got)
		switch f.Kind {
		case api.FaultNone:
			got = s
		case api.FaultShort:
			got = s[:len(got)+min(left, max(1, f.N))]
		case api.FaultSpace:
			return got, "no space left"
		case api.FaultIO:
			return got, "input/output error"
		case api.FaultPipe:
			return got, "broken pipe"
		}
	}
	return got, ""
}

// follows fails, if a job comes to something else than the model.
func follows(t *testing.T, j api.Job) api.Result {
	t.Helper()
	want := pure(j.Args)
	w := &wire{faults: j.Faults}
	var out, errs string
	say := func(what string) {
		got, _ := w.write(j.Args[0] + ": " + what + "\n")
		errs += got
	}
	for _, what := range want.errs {
		say(what)
	}
	out, failure := w.write(want.out)
	if failure != "" {
		say("standard output: " + failure)
		want.status = 1
	}
	r := comes(t, j, out, errs, want.status)
	if used := len(j.Faults) - len(w.faults); r.Steps != w.steps || r.Used != used {
		t.Errorf("%q, faults %q: %d steps, %d faults, not %d, %d", j.Args, signsOf(j.Faults), r.Steps, r.Used, w.steps, used)
	}
	return r
}
