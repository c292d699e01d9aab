package order_test

import (
	"math/big"
	"math/rand/v2"
	"regexp"
	"strconv"
	"strings"
	"testing"

	"toolchest/order"
)

// model is an order by the document's words: it cuts texts by expressions, makes texts of what counts, and takes numbers for numbers.
type model struct {
	flags string
	sep   string // "": by blanks
	keys  []modelKey
}

type modelKey struct {
	first, second   [2]int // field and byte; 0: there is none
	blanks, blanks2 bool
	flags           string
}

var keyForm = regexp.MustCompile(`^(\d+)(?:\.(\d+))?([bdfinr]*)(?:,(\d+)(?:\.(\d+))?([bdfinr]*))?$`)

// modelOf is that of such options; nil: they may not be.
func modelOf(texts list) *model {
	m := &model{}
	var keys list
	ok := true
	for _, s := range texts {
		switch arg := s[1:]; {
		case s[0] == 't':
			m.sep, ok = arg, len(arg) == 1
		case s[0] == 'k':
			keys = append(keys, arg)
		case strings.Contains("bdfinr", s[:1]):
			m.flags += s[:1]
		}
	}
	if !ok {
		return nil
	}
	if len(keys) == 0 {
		keys = list{"1"}
	}
	for _, s := range keys {
		k, ok := modelKeyOf(s, m.flags)
		if !ok {
			return nil
		}
		m.keys = append(m.keys, k)
	}
	return m
}

func modelKeyOf(s, flags string) (modelKey, bool) {
	parts := keyForm.FindStringSubmatch(s)
	if parts == nil {
		return modelKey{}, false
	}
	var n [7]int
	for _, i := range []int{1, 2, 4, 5} {
		if parts[i] == "" {
			continue
		}
		v, err := strconv.ParseInt(parts[i], 10, 32)
		if err != nil || v == 0 && i != 5 {
			return modelKey{}, false
		}
		n[i] = int(v)
	}
	one, two := parts[3], parts[6]
	if one+two == "" {
		one, two = flags, flags
	}
	return modelKey{[2]int{n[1], n[2]}, [2]int{n[4], n[5]}, strings.Contains(one, "b"), strings.Contains(two, "b"), one + two}, true
}

var fieldForm = regexp.MustCompile(`[ \t]*[^ \t]+|[ \t]+$`)

// fieldOf is where a line's n-th field lies.
func (m *model) fieldOf(line string, n int) (begin, end int, ok bool) {
	var spans [][]int
	if m.sep == "" {
		spans = fieldForm.FindAllStringIndex(line, -1)
	} else {
		at := 0
		for _, field := range strings.Split(line, m.sep) {
			spans = append(spans, []int{at, at + len(field)})
			at += len(field) + 1
		}
	}
	if line == "" {
		spans = [][]int{{0, 0}}
	}
	if n > len(spans) {
		return 0, 0, false
	}
	return spans[n-1][0], spans[n-1][1], true
}

// place is where a place's byte would stand: behind the line's end, perhaps.
func (m *model) place(line string, p [2]int, blanks bool) (at, fieldEnd int, ok bool) {
	begin, end, ok := m.fieldOf(line, p[0])
	if blanks {
		for begin < end && strings.Contains(" \t", line[begin:begin+1]) {
			begin++
		}
	}
	return begin + max(p[1], 1) - 1, end, ok
}

// bytesOf are a key's bytes.
func (m *model) bytesOf(line string, k modelKey) string {
	begin, _, ok := m.place(line, k.first, k.blanks)
	if !ok {
		begin = len(line)
	}
	end := len(line)
	if k.second[0] > 0 {
		at, fieldEnd, ok := m.place(line, k.second, k.blanks2)
		switch {
		case ok && k.second[1] == 0:
			end = fieldEnd
		case ok:
			end = at + 1
		}
	}
	var bytes []byte
	for i := begin; i < end && i < len(line); i++ {
		bytes = append(bytes, line[i])
	}
	return string(bytes)
}

var numberForm = regexp.MustCompile(`^[ \t]*(-?[0-9]+)`)

// compareModel compares two keys' bytes.
func compareModel(a, b, flags string) int {
	n := 0
	if strings.Contains(flags, "n") {
		n = numberModel(a).Cmp(numberModel(b))
	} else {
		n = strings.Compare(counted(a, flags), counted(b, flags))
	}
	if strings.Contains(flags, "r") {
		return -n
	}
	return n
}

func numberModel(s string) *big.Int {
	n := new(big.Int)
	if parts := numberForm.FindStringSubmatch(s); parts != nil {
		n.SetString(parts[1], 10)
	}
	return n
}

// counted is the text of those bytes that count.
func counted(s, flags string) string {
	var out []byte
	for i := range len(s) {
		c := s[i]
		if strings.Contains(flags, "d") && strings.IndexByte(" \tABCDEFGHIJKLMNOPQRSTUVWXYZabcdefghijklmnopqrstuvwxyz0123456789", c) < 0 {
			continue
		}
		if strings.Contains(flags, "i") && (c < 32 || c > 126) {
			continue
		}
		if at := strings.IndexByte("abcdefghijklmnopqrstuvwxyz", c); strings.Contains(flags, "f") && at >= 0 {
			c = "ABCDEFGHIJKLMNOPQRSTUVWXYZ"[at]
		}
		out = append(out, c)
	}
	return string(out)
}

// keysOf are the bytes of all keys of a line.
func (m *model) keysOf(line string) list {
	var all list
	for _, k := range m.keys {
		all = append(all, m.bytesOf(line, k))
	}
	return all
}

// answers are those of Keys and of Compare, of two lines and their keys.
func (m *model) answers(a, b string, keysOfA, keysOfB list) string {
	keys := 0
	for i, k := range m.keys {
		if keys == 0 {
			keys = compareModel(keysOfA[i], keysOfB[i], k.flags)
		}
	}
	compare := keys
	if compare == 0 {
		compare = strings.Compare(a, b)
		if strings.Contains(m.flags, "r") {
			compare = -compare
		}
	}
	return "<=>"[keys+1:keys+2] + "<=>"[compare+1:compare+2]
}

// asModel fails, if an order answers otherwise than the model of any two of these lines.
func asModel(t *testing.T, texts, lines list) {
	t.Helper()
	o, m := given(t, texts...), modelOf(texts)
	var keys []list
	for _, line := range lines {
		keys = append(keys, m.keysOf(line))
	}
	for i, a := range lines {
		for j, b := range lines {
			if got, want := answers(o, a, b), m.answers(a, b, keys[i], keys[j]); got != want {
				t.Fatalf("%q: %q, %q: %s, not %s", texts, a, b, got, want)
			}
		}
	}
}

// Every flag with every other one, of lines whose bytes are of each kind.
func TestEveryFlagsOfEveryShortLine(t *testing.T) {
	lines := everyText(2, " ", "\t", "a", "A", "B", "_", "0", "-", "\x01", "\x7f", "\xff")
	for _, some := range everyFlags() {
		asModel(t, some, lines)
	}
}

func TestEveryShortNumber(t *testing.T) {
	lines := everyText(4, "-", "0", "1", " ", "x")
	asModel(t, list{"n"}, lines)
	asModel(t, list{"k1nr"}, everyText(3, "-", "0", "1", "9", "\t", "+", "."))
}

// Every key of small numbers, of every line that has up to three fields.
func TestEveryPlaceOfEveryShortLine(t *testing.T) {
	places := list{"1", "2", "3", "1.1", "1.2", "1.3", "2.1", "2.2", "1b", "2b", "1.2b", "2.2b"}
	seconds := append(list{"", "1.0", "2.0", "2.0b"}, places...)
	byBlanks := everyText(4, " ", "\t", "a")
	byColons := everyText(4, ":", " ", "a")
	for _, first := range places {
		for _, second := range seconds {
			key := "k" + first + "," + second
			key = strings.TrimSuffix(key, ",")
			asModel(t, list{key}, byBlanks)
			asModel(t, list{"t:", key}, byColons)
			asModel(t, list{"t ", key}, everyText(3, " ", "\t", "a"))
		}
	}
}

// byChance makes options and lines, the same ones each time.
type byChance struct{ *rand.Rand }

func (c byChance) oneOf(l ...string) string { return l[c.IntN(len(l))] }

func (c byChance) letters() string {
	out := ""
	for range c.IntN(3) {
		out += c.oneOf("b", "d", "f", "i", "n", "r", "", "")
	}
	return out
}

func (c byChance) place(bytes ...string) string {
	out := c.oneOf("1", "2", "3", "4", "2147483647")
	if c.IntN(2) == 0 {
		out += "." + c.oneOf(bytes...)
	}
	return out + c.letters()
}

func (c byChance) options() list {
	var l list
	for range c.IntN(3) {
		l = append(l, c.oneOf("b", "d", "f", "i", "n", "r"))
	}
	if c.IntN(2) == 0 {
		l = append(l, "t"+c.oneOf(":", " ", "a", "-", "0", "\xff"))
	}
	for range c.IntN(4) {
		key := "k" + c.place("1", "2", "3", "4", "2147483647")
		if c.IntN(2) == 0 {
			key += "," + c.place("0", "1", "2", "3", "4", "2147483647")
		}
		l = append(l, key)
	}
	c.Shuffle(len(l), func(i, j int) { l[i], l[j] = l[j], l[i] })
	return l
}

func (c byChance) line() string {
	out := ""
	for range c.IntN(14) {
		out += c.oneOf(" ", " ", "\t", ":", ":", "a", "A", "b", "B", "z", "-", "0", "1", "9", "_", "\x00", "\x7f", "\xff", "\n")
	}
	return out
}

// lines are some, of which some are nearly the same.
func (c byChance) lines(n int) list {
	var l list
	for range n {
		line := c.line()
		l = append(l, line)
		if at := c.IntN(len(line) + 1); at < len(line) {
			l = append(l, line[:at]+c.oneOf(" ", ":", "a", "A", "0", "\xff", "")+line[at+1:])
		}
	}
	return l
}

func TestOrdersByChance(t *testing.T) {
	c := byChance{rand.New(rand.NewPCG(12, 1))}
	for range 6000 {
		asModel(t, c.options(), c.lines(8))
	}
}

// Some of these texts may be a key, and some may not: Read tells them apart as the model does.
func TestKeysByChance(t *testing.T) {
	c := byChance{rand.New(rand.NewPCG(12, 2))}
	for range 100000 {
		key := "k"
		for range c.IntN(12) {
			key += c.oneOf("0", "1", "2", "2147483647", "2147483648", ".", ".", ",", ",", "b", "d", "f", "i", "n", "r", "x", " ", "-")
		}
		_, ok := order.Read(options(key))
		if want := modelOf(list{key}) != nil; ok != want {
			t.Fatalf("%q: %v", key, ok)
		}
	}
}
