package order_test

import (
	"strings"
	"testing"

	"toolchest/api"
	"toolchest/order"
)

// options are of texts: each one's letter, and its argument behind it.
func options(texts ...string) []api.Opt {
	var l []api.Opt
	for _, s := range texts {
		l = append(l, api.Opt{Letter: s[0], Arg: s[1:]})
	}
	return l
}

// given is the order of such options.
func given(t *testing.T, texts ...string) *order.Order {
	t.Helper()
	o, ok := order.Read(options(texts...))
	if !ok || o == nil {
		t.Fatalf("%q: %v, %v", texts, o, ok)
	}
	return o
}

// refused fails, if such options may be.
func refused(t *testing.T, texts ...string) {
	t.Helper()
	if o, ok := order.Read(options(texts...)); ok || o != nil {
		t.Errorf("%q: %v, %v", texts, o, ok)
	}
}

// sign is below 0, 0 or above 0.
func sign(n int) int {
	switch {
	case n < 0:
		return -1
	case n > 0:
		return 1
	}
	return 0
}

// pair is what an order answers of two lines: `<`, `=` or `>`, of Keys and of Compare.
type pair struct {
	a, b string
	want string
}

// answers is what it answers.
func answers(o *order.Order, a, b string) string {
	const signs = "<=>"
	keys, compare := sign(o.Keys([]byte(a), []byte(b))), sign(o.Compare([]byte(a), []byte(b)))
	return string([]byte{signs[keys+1], signs[compare+1]})
}

// turned is what it answers of them the other way round.
func turned(want string) string { return strings.NewReplacer("<", ">", ">", "<").Replace(want) }

// held fails, if an order does not answer so of pairs, and of them the other way round.
func held(t *testing.T, texts []string, pairs ...pair) {
	t.Helper()
	o := given(t, texts...)
	for _, p := range pairs {
		if got := answers(o, p.a, p.b); got != p.want {
			t.Errorf("%q: %q, %q: %s, not %s", texts, p.a, p.b, got, p.want)
		}
		if got := answers(o, p.b, p.a); got != turned(p.want) {
			t.Errorf("%q: %q, %q: %s, not %s", texts, p.b, p.a, got, turned(p.want))
		}
	}
}

// list is of options, or of lines.
type list = []string

// everyText are all texts of up to so many signs.
func everyText(most int, signs ...string) list {
	all := list{""}
	for begin := 0; most > 0; most-- {
		end := len(all)
		for _, s := range all[begin:end] {
			for _, sign := range signs {
				all = append(all, s+sign)
			}
		}
		begin = end
	}
	return all
}

// everyFlags are all sets of flags, each as options.
func everyFlags() []list {
	const letters = "bdfinr"
	var all []list
	for set := range 1 << len(letters) {
		var some list
		for i := range len(letters) {
			if set>>i&1 == 1 {
				some = append(some, letters[i:i+1])
			}
		}
		all = append(all, some)
	}
	return all
}
