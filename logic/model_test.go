package logic_test

import (
	"math/big"
	"path"
	"regexp"
	"slices"
	"strings"
	"testing"

	"toolchest/api"
)

// The model finds numbers and pieces by the library's expressions, reckons with its great numbers, and parts expressions at their weakest sign.

var numberForm = regexp.MustCompile(`^-?[0-9]+$`)

// valueOf is a text's number; nil: it is none.
func valueOf(s string) *big.Int {
	n, _ := new(big.Int).SetString(s, 10)
	if !numberForm.MatchString(s) || !n.IsInt64() {
		return nil
	}
	return n
}

// said is what a job comes to without faults: in how many looks at the tree, what it says, what it tells, the status.
type said struct {
	looks  int
	err    string
	out    string
	status int
}

func failed(err string) said { return said{err: err, status: 2} }

const (
	usage    = "usage"
	noNumber = "not a number"
	noRegex  = "bad regular expression"
	tooMany  = "too many"
)

// ofText is an error of an argument.
func ofText(s, err string) string {
	if s == "" {
		return err
	}
	return s + ": " + err
}

// pure is what comes of a job.
func pure(j api.Job) said {
	name, args := j.Args[0], j.Args[1:]
	if name == "expr" {
		return expressed(args)
	}
	if name == "[" {
		last := len(args) - 1
		if last < 0 || args[last] != "]" {
			return failed(usage)
		}
		args = args[:last]
	}
	return tested(j, args)
}

// pathSigns are those that look at the tree, testSigns those between two arguments.
var (
	pathSigns = strings.Fields("-e -d -f -s -r -w -x")
	testSigns = strings.Fields("= != -eq -ne -gt -ge -lt -le")
)

// looks is how often arguments look at the tree.
func looks(args []string) int { return tested(jobOf(), args).looks }

// tested takes away what stands around, till what is left says by itself whether it is true.
func tested(j api.Job, args []string) said {
	isTrue, r := false, said{}
	turns := 0
	for {
		n := len(args)
		is := func(at int, s string) bool { return at < n && args[at] == s }
		switch {
		case n > 4:
			return failed(usage)
		case n == 0:
		case n == 1:
			isTrue = args[0] != ""
		case n == 3 && slices.Contains(testSigns, args[1]):
			var err string
			if isTrue, err = held(args[0], args[1], args[2]); err != "" {
				return failed(err)
			}
		case is(0, "!"):
			turns, args = turns+1, args[1:]
			continue
		case n > 2 && is(0, "(") && is(n-1, ")"):
			args = args[1 : n-1]
			continue
		case n == 2 && is(0, "-z"):
			isTrue = args[1] == ""
		case n == 2 && is(0, "-n"):
			isTrue = args[1] != ""
		case n == 2 && slices.Contains(pathSigns, args[0]):
			r.looks++
			isTrue = strings.Contains(standing(j, args[1]), args[0][1:])
		default:
			return failed(usage)
		}
		break
	}
	if isTrue == (turns%2 == 1) {
		r.status = 1
	}
	return r
}

// standing are the letters that are true of what a path leads to.
func standing(j api.Job, operand string) string {
	all := map[string]api.Node{"/": dir("/", 0o755)}
	for _, n := range j.Nodes {
		all[n.Path] = n
	}
	if operand == "" {
		return ""
	}
	at := "/"
	if operand[0] != '/' {
		at = path.Join("/", j.Cwd)
	}
	parts := strings.Split(operand, "/")
	for i, part := range parts {
		if !all[at].Dir {
			return ""
		}
		if part == "" && i < len(parts)-1 {
			continue
		}
		at = path.Join(at, part)
		if _, ok := all[at]; !ok {
			return ""
		}
	}
	n, letters := all[at], "e"
	if n.Dir {
		letters += "d"
	} else {
		letters += "f"
	}
	if len(n.Data) > 0 {
		letters += "s"
	}
	for i, letter := range []string{"x", "w", "r"} {
		if n.Mode>>(6+i)&1 == 1 {
			letters += letter
		}
	}
	return letters
}

func held(a, sign, b string) (bool, string) {
	order := strings.Compare(a, b)
	if strings.HasPrefix(sign, "-") {
		x, y := valueOf(a), valueOf(b)
		if x == nil {
			return false, ofText(a, noNumber)
		}
		if y == nil {
			return false, ofText(b, noNumber)
		}
		order = x.Cmp(y)
	}
	return strings.Contains(map[string]string{
		"=": "=", "!=": "<>", "<": "<", "<=": "<=", ">": ">", ">=": "=>",
		"-eq": "=", "-ne": "<>", "-lt": "<", "-le": "<=", "-gt": ">", "-ge": "=>",
	}[sign], "<=>"[order+1:order+2]), ""
}

// strengths are the signs from the weakest on.
var strengths = [][]string{{"|"}, {"&"}, {"=", ">", ">=", "<", "<=", "!="}, {"+", "-"}, {"*", "/", "%"}, {":"}}

// marked tells what each argument is: `v` a value, `(` and `)` parentheses, a digit a sign by its strength, each at the depth at which it stands; false: this is no expression.
func marked(args []string) (marks string, depths []int, ok bool) {
	depth := 0
	for _, arg := range args {
		mark := "v"
		isBehind := strings.HasSuffix(marks, "v") || strings.HasSuffix(marks, ")")
		switch {
		case isBehind && arg == ")":
			mark = ")"
			depth--
			if depth < 0 {
				return "", nil, false
			}
		case isBehind:
			at := slices.IndexFunc(strengths, func(l []string) bool { return slices.Contains(l, arg) })
			if at < 0 {
				return "", nil, false
			}
			mark = string(rune('0' + at))
		case arg == ")":
			return "", nil, false
		case arg == "(":
			mark = "("
		}
		marks += mark
		depths = append(depths, depth)
		if mark == "(" {
			depth++
		}
	}
	return marks, depths, depth == 0 && (strings.HasSuffix(marks, "v") || strings.HasSuffix(marks, ")"))
}

func isNull(s string) bool {
	n := valueOf(s)
	return s == "" || n != nil && n.Sign() == 0
}

// expressed is what expr comes to.
func expressed(args []string) said {
	marks, depths, ok := marked(args)
	if !ok {
		return failed(usage)
	}
	value, err := reckoned(args, marks, depths)
	if err != "" {
		return failed(err)
	}
	r := said{out: value + "\n"}
	if isNull(value) {
		r.status = 1
	}
	return r
}

// reckoned parts arguments at the last one of their weakest signs that stand in no parentheses of theirs.
func reckoned(args []string, marks string, depths []int) (string, string) {
	at := -1
	for i := range marks {
		if depths[i] == depths[0] && marks[i] >= '0' && marks[i] <= '5' && (at < 0 || marks[i] <= marks[at]) {
			at = i
		}
	}
	if at < 0 {
		if last := len(args) - 1; last > 0 {
			return reckoned(args[1:last], marks[1:last], depths[1:last])
		}
		return args[0], ""
	}
	a, err := reckoned(args[:at], marks[:at], depths[:at])
	if err != "" {
		return "", err
	}
	b, err := reckoned(args[at+1:], marks[at+1:], depths[at+1:])
	if err != "" {
		return "", err
	}
	return between(a, args[at], b)
}

// between is what a sign makes of two values.
func between(a, sign, b string) (string, string) {
	x, y := valueOf(a), valueOf(b)
	switch sign {
	case "|":
		for _, s := range []string{a, b} {
			if !isNull(s) {
				return s, ""
			}
		}
		if b == "" {
			return "0", ""
		}
		return b, ""
	case "&":
		if isNull(a) || isNull(b) {
			return "0", ""
		}
		return a, ""
	case ":":
		return stands(a, b)
	case "=", "!=", "<", "<=", ">", ">=":
		if x != nil && y != nil {
			a, b = "1", map[int]string{-1: "2", 0: "1", 1: "0"}[x.Cmp(y)]
		}
		is, _ := held(a, sign, b)
		return map[bool]string{true: "1", false: "0"}[is], ""
	}
	if x == nil {
		return "", ofText(a, noNumber)
	}
	if y == nil {
		return "", ofText(b, noNumber)
	}
	n := new(big.Int)
	switch sign {
	case "+":
		n.Add(x, y)
	case "-":
		n.Sub(x, y)
	case "*":
		n.Mul(x, y)
	default:
		if y.Sign() == 0 {
			return "", noNumber
		}
		rest := new(big.Int)
		n.QuoRem(x, y, rest)
		if sign == "%" {
			n = rest
		}
	}
	if !n.IsInt64() {
		return "", noNumber
	}
	return n.String(), ""
}

// great are expressions that are too great, and one that just is not, but for what stands around it.
const (
	great     = `\(a\{255\}\)\{40\}`
	justGreat = `\(a\{255\}\)\{39\}aaaaaaaaaaaaa`
)

// stands is how many bytes of a text an expression finds.
func stands(s, expr string) (string, string) {
	if expr == great || expr == justGreat {
		return "", expr + ": " + tooMany
	}
	lib, ok := asLibrary(asRunes(`^\(` + expr + `\)`))
	if !ok {
		return "", ofText(expr, noRegex)
	}
	r := compile(lib)
	return big.NewInt(int64(len([]rune(r.FindString(asRunes(s)))))).String(), ""
}

// asRunes makes of each byte a rune, so that the library has a byte as one.
func asRunes(s string) string {
	var l []rune
	for _, c := range []byte(s) {
		l = append(l, rune(c))
	}
	return string(l)
}

var compiled = map[string]*regexp.Regexp{}

func compile(s string) *regexp.Regexp {
	if compiled[s] == nil {
		r := regexp.MustCompile("(?s)" + s)
		r.Longest()
		compiled[s] = r
	}
	return compiled[s]
}

// pieceForm is what stands in a basic expression: a parenthesis, its end, a repetition, a bracket of simple parts, a byte behind a backslash, a byte.
var pieceForm = regexp.MustCompile(`^(?s)(?:(\\\()|(\\\))|(\*)|\\\{([0-9])(,?)([0-9]?)\\\}|(\[\^?(?:0-9|[a-c])+\])|\\([^a-zA-Z0-9(){}])|([^\\[]))`)

// asLibrary tells a basic expression, whose bytes are runes, as one of the library; false: it may not be. (Brackets but simple ones are none that it knows.)
func asLibrary(s string) (string, bool) {
	const first, hat, atom, repeated = 0, 1, 2, 3
	lib, depth, last := "", 0, first
	for s != "" {
		m := pieceForm.FindStringSubmatch(s)
		if m == nil {
			return "", false
		}
		s = s[len(m[0]):]
		kind := atom
		switch {
		case m[1] != "":
			lib, kind, depth = lib+"(", first, depth+1
		case m[2] != "":
			lib, depth = lib+")", depth-1
			if depth < 0 {
				return "", false
			}
		case m[3] != "" && last <= hat:
			lib += `\*`
		case m[3] != "" || m[4] != "":
			if last != atom || m[6] != "" && (m[5] == "" || m[6] < m[4]) {
				return "", false
			}
			lib, kind = lib+strings.ReplaceAll(m[0], `\`, ""), repeated
		case m[0] == "^" && last == first:
			lib, kind = lib+"^", hat
		case m[0] == "$" && (s == "" || strings.HasPrefix(s, `\)`)), m[0] == ".", m[7] != "":
			lib += m[0]
		default:
			lib += regexp.QuoteMeta(m[8] + m[9])
		}
		last = kind
	}
	return lib, depth == 0
}

// wire is where transfers go, with the faults that are left.
type wire struct {
	faults []api.Fault
	steps  int
}

// write is how much of a text gets through, and what is said of what does not.
func (w *wire) write(s string) (string, string) {
	got := ""
	for got != s {
		w.steps++
		f := api.Fault{}
		if len(w.faults) > 0 {
			f, w.faults = w.faults[0], w.faults[1:]
		}
		left := len(s) - len(got)
		switch f.Kind {
		case api.FaultNone:
			got = s
		case api.FaultShort:
			got = s[:len(got)+min(left, max(1, f.N))]
		case api.FaultSpace:
			return got, "no space left"
		case api.FaultIO:
			return got, "input/output error"
		case api.FaultPipe:
			return got, "broken pipe"
		}
	}
	return got, ""
}

// follows fails, if a job comes to something else than the model.
func follows(t *testing.T, j api.Job) api.Result {
	t.Helper()
	want := pure(j)
	w := &wire{faults: j.Faults}
	errs := ""
	say := func(what string) {
		got, _ := w.write(j.Args[0] + ": " + what + "\n")
		errs += got
	}
	if want.err != "" {
		say(want.err)
	}
	out, failure := w.write(want.out)
	if failure != "" {
		say("standard output: " + failure)
		want.status = 3
	}
	r := comes(t, j, out, errs, want.status)
	if used := len(j.Faults) - len(w.faults); r.Steps != want.looks+w.steps || r.Used != used {
		t.Errorf("%q, faults %q: %d steps, %d faults, not %d, %d", j.Args, signsOf(j.Faults), r.Steps, r.Used, want.looks+w.steps, used)
	}
	return r
}
