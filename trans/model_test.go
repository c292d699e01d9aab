package trans_test

import (
	"regexp"
	"strconv"
	"strings"
	"testing"

	"toolchest/api"
)

// sign is an expression of one, and forms of all that may stand at a string's beginning, in order.
const sign = `(\\[0-7]{1,3}|\\[^0-7]|\\\z|[^\\])`

var forms = regexp.MustCompile(`(?s)^(?:\[:(.*?):\]|\[=` + sign + `=\]|\[` + sign + `\*([0-9]*)\]|` + sign + `-` + sign + `|` + sign + `)`)

// wide is a text each of whose bytes is a rune, as expressions go by runes.
func wide(s string) string {
	var out []rune
	for i := range len(s) {
		out = append(out, rune(s[i]))
	}
	return string(out)
}

// byteOf is the byte for which a sign of a wide text stands.
func byteOf(sign string) byte {
	runes := []rune(sign)
	if len(runes) == 1 {
		return byte(runes[0])
	}
	if n, err := strconv.ParseUint(sign[1:], 8, 64); err == nil {
		return byte(n % 256)
	}
	if c, ok := map[rune]byte{'a': 7, 'b': 8, 'f': 12, 'n': 10, 'r': 13, 't': 9, 'v': 11}[runes[1]]; ok {
		return c
	}
	return byte(runes[1])
}

// modelSet is Set by expressions.
func modelSet(s string) (string, int, bool) {
	left, rest := wide(s), -1
	var out strings.Builder
	for left != "" {
		at := forms.FindStringSubmatchIndex(left)
		group := func(n int) string {
			if at[2*n] < 0 {
				return ""
			}
			return left[at[2*n]:at[2*n+1]]
		}
		switch {
		case at[2] >= 0:
			l, ok := classes()[group(1)]
			if !ok {
				return "", -1, false
			}
			out.WriteString(l)
		case at[6] >= 0:
			n, ok := timesOf(group(4))
			if !ok || n == 0 && rest >= 0 {
				return "", -1, false
			}
			if n == 0 {
				n, rest = 1, out.Len()
			}
			out.WriteString(strings.Repeat(string([]byte{byteOf(group(3))}), min(n, 65536)))
		case at[10] >= 0:
			first, last := byteOf(group(5)), byteOf(group(6))
			if last < first {
				return "", -1, false
			}
			for c := int(first); c <= int(last); c++ {
				out.WriteByte(byte(c))
			}
		default:
			out.WriteByte(byteOf(group(2) + group(7)))
		}
		left = left[at[1]:]
	}
	return out.String(), rest, true
}

func timesOf(digits string) (int, bool) {
	if digits == "" {
		return 0, true
	}
	base := 10
	if strings.HasPrefix(digits, "0") {
		base = 8
	}
	n, err := strconv.ParseUint(digits, base, 64)
	return int(n), err == nil && n <= api.MaxNum
}

// asked is what arguments ask for.
type asked struct {
	options  string // all letters
	operands []string
}

func askedOf(args []string) asked {
	var a asked
	for len(args) > 0 && len(args[0]) > 1 && args[0][0] == '-' {
		group := args[0][1:]
		args = args[1:]
		if group == "-" {
			break
		}
		a.options += group
	}
	a.operands = args
	return a
}

func (a asked) has(letters string) bool { return strings.ContainsAny(a.options, letters) }

// changes makes what a text becomes; nil: options and operands may not be.
func (a asked) changes() func(string) string {
	forms := map[string][]int{"": {2}, "s": {1, 2}, "d": {1}, "ds": {2}}
	var form string
	for _, letter := range []string{"d", "s"} {
		if a.has(letter) {
			form += letter
		}
	}
	isForm := strings.Trim(a.options, "cCds") == ""
	isCount := false
	for _, n := range forms[form] {
		isCount = isCount || len(a.operands) == n
	}
	if !isForm || !isCount {
		return nil
	}
	one, rest, ok := modelSet(a.operands[0])
	if !ok || rest >= 0 {
		return nil
	}
	if a.has("cC") {
		one = lacks(one)
	}
	set, isTwo := one, len(a.operands) == 2
	if isTwo {
		var ok bool
		if set, rest, ok = modelSet(a.operands[1]); !ok {
			return nil
		}
		if rest >= 0 {
			filled, behind := []byte(set[:rest]), set[rest+1:]
			for len(filled)+len(behind) < len(one) {
				filled = append(filled, set[rest])
			}
			set = string(filled) + behind
		}
	}
	translates := isTwo && !a.has("d")
	if translates && one != "" && set == "" {
		return nil
	}
	return func(s string) string {
		if translates {
			s = translated(s, one, set)
		}
		if a.has("d") {
			s = without(s, one)
		}
		if a.has("s") {
			s = squeezed(s, set)
		}
		return s
	}
}

// lacks are the bytes that a set has not.
func lacks(set string) string {
	var out []byte
	for c := range 256 {
		if strings.IndexByte(set, byte(c)) < 0 {
			out = append(out, byte(c))
		}
	}
	return string(out)
}

func translated(s, one, two string) string {
	out := []byte(s)
	for i, c := range out {
		if at := strings.LastIndexByte(one, c); at >= 0 {
			out[i] = two[min(at, len(two)-1)]
		}
	}
	return string(out)
}

func without(s, set string) string {
	var out []byte
	for i := range len(s) {
		if strings.IndexByte(set, s[i]) < 0 {
			out = append(out, s[i])
		}
	}
	return string(out)
}

func squeezed(s, set string) string {
	for c := range 256 {
		one := string([]byte{byte(c)})
		for strings.Contains(set, one) && strings.Contains(s, one+one) {
			s = strings.ReplaceAll(s, one+one, one)
		}
	}
	return s
}

// model runs a job by strings alone, with faults by the transfers that they befall.
type model struct {
	job    api.Job
	used   int
	out    string
	errs   string
	status int
}

// befall is how many bytes of a transfer go through, and what is wrong with it.
func (m *model) befall(n int, isWrite bool) (int, string) {
	for m.used < len(m.job.Faults) {
		f := m.job.Faults[m.used]
		m.used++
		switch {
		case f.Kind == api.FaultIntr:
			continue
		case f.Kind == api.FaultShort:
			return min(n, max(1, f.N)), ""
		case f.Kind == api.FaultIO:
			return 0, "input/output error"
		case f.Kind == api.FaultSpace && isWrite:
			return 0, "no space left"
		case f.Kind == api.FaultPipe && isWrite:
			return 0, "broken pipe"
		}
		break
	}
	return n, ""
}

// write appends a text to another one; what goes wrong with it.
func (m *model) write(to *string, s string) string {
	for s != "" {
		n, wrong := m.befall(len(s), true)
		if wrong != "" {
			return wrong
		}
		*to, s = *to+s[:n], s[n:]
	}
	return ""
}

func (m *model) fail(operand, word string) {
	m.status = 1
	m.write(&m.errs, "tr: "+operand+word+"\n")
}

// run tells with each chunk what it adds to what all that was read becomes.
func (m *model) run() {
	change := askedOf(m.job.Args[1:]).changes()
	if change == nil {
		m.fail("", "usage")
		return
	}
	in := string(m.job.In)
	for read := 0; ; {
		n, wrong := m.befall(min(m.job.Lim.Buf, len(in)-read), false)
		if wrong != "" {
			m.fail("-: ", wrong)
			return
		}
		if n == 0 {
			return
		}
		read += n
		if wrong := m.write(&m.out, change(in[:read])[len(m.out):]); wrong != "" {
			m.fail("standard output: ", wrong)
			return
		}
	}
}

// follows fails, if a job's result is other than what the model tells.
func follows(t *testing.T, j api.Job) api.Result {
	t.Helper()
	m := &model{job: j}
	m.run()
	r := comes(t, j, m.out, m.errs, m.status)
	if r.Used != m.used {
		t.Errorf("%q, In %q, Buf %d, faults %v: %d faults were used, not %d", j.Args, j.In, j.Lim.Buf, j.Faults, r.Used, m.used)
	}
	return r
}
