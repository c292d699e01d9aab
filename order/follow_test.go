package order_test

import (
	"bytes"
	"math/rand/v2"
	"slices"
	"sync"
	"testing"

	"toolchest/api"
	"toolchest/order"
)

// P12.4

// someOptions are of orders of each kind.
func someOptions() []list {
	return []list{
		nil, {"b"}, {"d"}, {"f"}, {"i"}, {"n"}, {"r"}, {"n", "r"}, {"b", "f", "r"}, {"d", "i", "f"},
		{"k2"}, {"k2,2"}, {"k2b,2"}, {"k1.2,1.3"}, {"k1.2b,1.3b"}, {"k2,1"}, {"k9"},
		{"k2n", "k1f"}, {"k2,2nr", "k1,1fr", "k3"}, {"r", "k1,1n", "k2"}, {"r", "k1d"},
		{"t:", "k2"}, {"t:", "k2,2n"}, {"t:", "k2b,2.1b", "k1r"}, {"t ", "k2,2f", "n"}, {"ta", "k2,3"},
	}
}

func someLines() list {
	return list{
		"", " ", "  ", "\t", "a", "A", "b", "B", "_", "ab", "aB", "a b", "a  b", " a b", "a\tb", "b a", "B a", "a b ", "a:b", "a::b", ":a", "a:", ":", "b:a", "B:A:c",
		"1", "01", "-1", "-01", "-0", "0", "10", "9", " 9", "-10", "1 2", "1 10", "2 1", "x 1", "x -1", "x 01", "a:1", "a:01", "a:10", "a:-1", "A:1",
		"a-b", "(a)", "a\x01b", "\x7f", "\x80", "\xff", "\xffa", "a\xff", "banana", "a a a", "99999999999999999999", "100000000000000000000",
	}
}

// signs are what is told of all pairs.
func signs(compare func(a, b []byte) int, lines list) [][]int {
	var all [][]int
	for _, a := range lines {
		var row []int
		for _, b := range lines {
			row = append(row, sign(compare([]byte(a), []byte(b))))
		}
		all = append(all, row)
	}
	return all
}

// inOrder fails, if what is told of any two lines is not the same the other way round, or of any three goes in a circle.
func inOrder(t *testing.T, texts, lines list, compare func(a, b []byte) int) {
	t.Helper()
	told := signs(compare, lines)
	for i, a := range lines {
		for j, b := range lines {
			if told[i][j] != -told[j][i] {
				t.Fatalf("%q: %q, %q: %d, but %d", texts, a, b, told[i][j], told[j][i])
			}
			for k, c := range lines {
				ab, bc, ac := told[i][j], told[j][k], told[i][k]
				if ab <= 0 && bc <= 0 && (ac > 0 || ac == 0 && ab+bc < 0) {
					t.Fatalf("%q: %q, %q, %q: %d, %d, but %d", texts, a, b, c, ab, bc, ac)
				}
			}
		}
	}
}

// anOrder fails, if Compare is none, or Keys, or lines that are not the same are so by Compare.
func anOrder(t *testing.T, texts, lines list) {
	t.Helper()
	o := given(t, texts...)
	inOrder(t, texts, lines, o.Compare)
	inOrder(t, texts, lines, o.Keys)
	for _, a := range lines {
		for _, b := range lines {
			if n := o.Compare([]byte(a), []byte(b)); (n == 0) != (a == b) {
				t.Fatalf("%q: %q, %q: %d", texts, a, b, n)
			}
		}
	}
}

func TestCompareIsAnOrder(t *testing.T) {
	for _, texts := range append(someOptions(), everyFlags()...) {
		anOrder(t, texts, someLines())
	}
}

func TestCompareIsAnOrderByChance(t *testing.T) {
	c := byChance{rand.New(rand.NewPCG(12, 3))}
	for range 2000 {
		anOrder(t, c.options(), c.lines(6))
	}
}

// Where Keys tells a difference, Compare tells the same.
func TestCompareGoesByKeys(t *testing.T) {
	lines := someLines()
	for _, texts := range someOptions() {
		o := given(t, texts...)
		for _, a := range lines {
			for _, b := range lines {
				keys, compare := sign(o.Keys([]byte(a), []byte(b))), sign(o.Compare([]byte(a), []byte(b)))
				if keys != 0 && compare != keys {
					t.Fatalf("%q: %q, %q: %d, but %d of Keys", texts, a, b, compare, keys)
				}
			}
		}
	}
}

// Lines are sorted in one way alone, however they stood.
func TestSortedInOneWay(t *testing.T) {
	c := rand.New(rand.NewPCG(12, 4))
	for _, texts := range someOptions() {
		o := given(t, texts...)
		var want list
		for range 5 {
			lines := someLines()
			c.Shuffle(len(lines), func(i, j int) { lines[i], lines[j] = lines[j], lines[i] })
			slices.SortFunc(lines, func(a, b string) int { return o.Compare([]byte(a), []byte(b)) })
			if want == nil {
				want = lines
			}
			if !slices.Equal(lines, want) {
				t.Fatalf("%q: %q, but %q", texts, lines, want)
			}
		}
	}
}

// R5

// allAnswers are what an order answers of all pairs.
func allAnswers(o *order.Order, lines list) string {
	var out []byte
	for _, a := range lines {
		for _, b := range lines {
			out = append(out, answers(o, a, b)...)
		}
	}
	return string(out)
}

// An order answers the same however often it is asked, and whatever others are asked meanwhile; and so does another one of the same options.
func TestAskedAgainAndAgain(t *testing.T) {
	lines := someLines()
	all := someOptions()
	var orders []*order.Order
	var first list
	for _, texts := range all {
		o := given(t, texts...)
		orders = append(orders, o)
		first = append(first, allAnswers(o, lines))
	}
	backwards := slices.Clone(lines)
	slices.Reverse(backwards)
	for range 2 {
		for i, o := range orders {
			allAnswers(o, backwards)
			if allAnswers(o, lines) != first[i] || allAnswers(given(t, all[i]...), lines) != first[i] {
				t.Errorf("%q: it answers otherwise than at first", all[i])
			}
		}
	}
}

// Nothing is kept from one question to the next, so several may ask at once.
func TestAskedAtOnce(t *testing.T) {
	lines := someLines()
	o := given(t, "t:", "k2b,2.3n", "k1fr", "d")
	want := allAnswers(o, lines)
	var asking sync.WaitGroup
	got := make(list, 4)
	for i := range got {
		asking.Go(func() { got[i] = allAnswers(o, lines) })
	}
	asking.Wait()
	for _, s := range got {
		if s != want {
			t.Error("asked at once, it answers otherwise")
		}
	}
}

// R4

func TestOptionsAreNeitherChangedNorKept(t *testing.T) {
	lines := someLines()
	for _, texts := range append(someOptions(), list{"k0"}, list{"t"}, list{"n", "k1", "k2,", "r"}) {
		behind := api.Opt{Letter: 'k', Arg: "0"} // which may not be, and is none of them
		all := append(options(texts...), behind, behind)
		before := slices.Clone(all)
		o, ok := order.Read(all[:len(texts)])
		if !slices.Equal(all, before) {
			t.Errorf("%q: what was handed in is %v then", texts, all)
		}
		if want := modelOf(texts) != nil; ok != want {
			t.Errorf("%q: %v", texts, ok)
		}
		if !ok {
			continue
		}
		want := allAnswers(o, lines)
		for i := range all {
			all[i] = api.Opt{Letter: 'r', Arg: "#"}
		}
		if allAnswers(o, lines) != want {
			t.Errorf("%q: what was handed in is kept", texts)
		}
	}
}

// room is a line with bytes behind its end that are not its own.
func room(line string, behind string) (own, all []byte) {
	all = []byte(line + behind)
	return all[:len(line)], all
}

func TestLinesAreNeitherChangedNorKept(t *testing.T) {
	lines := someLines()
	for _, texts := range someOptions() {
		o := given(t, texts...)
		for _, a := range lines {
			for _, b := range lines {
				own, all := room(a, "zz 9:9")
				ownToo, allToo := room(b, "00 1:1")
				keys, compare := o.Keys(own, ownToo), o.Compare(own, ownToo)
				if !bytes.Equal(all, []byte(a+"zz 9:9")) || !bytes.Equal(allToo, []byte(b+"00 1:1")) {
					t.Fatalf("%q: %q, %q: they are %q, %q then", texts, a, b, all, allToo)
				}
				if sign(keys) != sign(o.Keys([]byte(a), []byte(b))) || sign(compare) != sign(o.Compare([]byte(a), []byte(b))) {
					t.Fatalf("%q: %q, %q: what stands behind their ends is read", texts, a, b)
				}
			}
		}
	}
}

// One memory may be both lines, or be another line the next time.
func TestLinesOfOneMemory(t *testing.T) {
	for _, texts := range someOptions() {
		o := given(t, texts...)
		one := []byte("a b:1")
		if o.Keys(one, one) != 0 || o.Compare(one, one) != 0 {
			t.Errorf("%q: a line is not the same as itself", texts)
		}
		held := []byte("x 1:2")
		o.Compare(held, one)
		copy(held, "b 7:3")
		if sign(o.Compare(held, one)) != sign(o.Compare([]byte("b 7:3"), []byte("a b:1"))) {
			t.Errorf("%q: a line is kept", texts)
		}
	}
}

// R2: a line that is nil is one without bytes.
func TestNilLines(t *testing.T) {
	for _, texts := range someOptions() {
		o := given(t, texts...)
		if o.Keys(nil, nil) != 0 || o.Compare(nil, []byte{}) != 0 || o.Compare([]byte{}, nil) != 0 {
			t.Errorf("%q: lines without bytes are not the same", texts)
		}
		for _, s := range someLines() {
			if sign(o.Compare(nil, []byte(s))) != sign(o.Compare([]byte{}, []byte(s))) {
				t.Errorf("%q: nil and %q", texts, s)
			}
		}
	}
}
