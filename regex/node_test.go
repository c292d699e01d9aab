package regex_test

import (
	"reflect"
	"strings"
	"testing"

	"toolchest/api"
	"toolchest/regex"
)

// P15.5

func set(l string) *regex.Node {
	n := &regex.Node{Kind: regex.Set}
	for i := range len(l) {
		n.Has[l[i]] = true
	}
	return n
}

func anySet() *regex.Node {
	n := set("")
	for c := range n.Has {
		n.Has[c] = true
	}
	return n
}

func node(kind int, kids ...*regex.Node) *regex.Node { return &regex.Node{Kind: kind, Kids: kids} }

func rep(least, most int, kid *regex.Node) *regex.Node {
	return &regex.Node{Kind: regex.Rep, Min: least, Max: most, Kids: []*regex.Node{kid}}
}

func TestKinds(t *testing.T) {
	if l := []int{regex.Empty, regex.Set, regex.Begin, regex.End, regex.Cat, regex.Alt, regex.Rep}; !reflect.DeepEqual(l, []int{0, 1, 2, 3, 4, 5, 6}) {
		t.Error(l)
	}
}

func TestNodes(t *testing.T) {
	a, b, c := set("a"), set("b"), set("c")
	for _, x := range []struct {
		h    how
		s    string
		want *regex.Node
	}{
		{extended, "a", a},
		{extended, "[a-c]", set("abc")},
		{extended, "[^\x00-\xff]", set("")},
		{extended, ".", anySet()},
		{extended, "^", node(regex.Begin)},
		{extended, "$", node(regex.End)},
		{extended, "abc", node(regex.Cat, a, b, c)},
		{extended, "a|b|c", node(regex.Alt, a, b, c)},
		{extended, "(a)", a},
		{extended, "((((a))))", a},
		{extended, "(ab)", node(regex.Cat, a, b)},
		{extended, "(ab)c", node(regex.Cat, node(regex.Cat, a, b), c)},
		{extended, "a(bc)", node(regex.Cat, a, node(regex.Cat, b, c))},
		{extended, "(a|b)|c", node(regex.Alt, node(regex.Alt, a, b), c)},
		{extended, "a|bc", node(regex.Alt, a, node(regex.Cat, b, c))},
		{extended, "((a)(b))|((c))", node(regex.Alt, node(regex.Cat, a, b), c)},
		{extended, "a*", rep(0, -1, a)},
		{extended, "a+", rep(1, -1, a)},
		{extended, "a?", rep(0, 1, a)},
		{extended, "a{3}", rep(3, 3, a)},
		{extended, "a{3,}", rep(3, -1, a)},
		{extended, "a{3,7}", rep(3, 7, a)},
		{extended, "a{0}", rep(0, 0, a)},
		{extended, "(ab)*", rep(0, -1, node(regex.Cat, a, b))},
		{extended, "ab*", node(regex.Cat, a, rep(0, -1, b))},
		{extended, "(a*)+", rep(1, -1, rep(0, -1, a))},
		{extended, "^a$|b", node(regex.Alt, node(regex.Cat, node(regex.Begin), a, node(regex.End)), b)},
		{extendedFold, "aB", node(regex.Cat, set("aA"), set("bB"))},
		{basic, "", node(regex.Empty)},
		{basic, `\(\)`, node(regex.Empty)},
		{basic, `\(\(\)\)*`, rep(0, -1, node(regex.Empty))},
		{basic, `a\(\)`, node(regex.Cat, a, node(regex.Empty))},
		{basic, `\(a\)\{2,\}`, rep(2, -1, a)},
		{basic, "^*$", node(regex.Cat, node(regex.Begin), set("*"), node(regex.End))},
	} {
		if got := x.h.given(t, x.s).Node(); !same(got, x.want) {
			t.Errorf("%q %s: %s", x.s, x.h, told(t, got))
		}
	}
}

// same says that nodes are the same, where a list without nodes is one with none, and any number below 0 says that there is no end.
func same(a, b *regex.Node) bool {
	if a.Kind != b.Kind || a.Has != b.Has || a.Min != b.Min || max(a.Max, -1) != max(b.Max, -1) || len(a.Kids) != len(b.Kids) {
		return false
	}
	for i := range a.Kids {
		if !same(a.Kids[i], b.Kids[i]) {
			return false
		}
	}
	return true
}

func TestLiterals(t *testing.T) {
	for _, x := range []struct {
		s    string
		fold bool
		want string
	}{
		{"", false, "()"}, {"", true, "()"},
		{"a", false, "<61>"}, {"a", true, "<41,61>"}, {"A", false, "<41>"}, {"A", true, "<41,61>"}, {"1", true, "<31>"}, {"\x00", false, "<00>"}, {"\xff", true, "<ff>"}, {"\xe4", true, "<e4>"},
		{"ab", false, "(<61><62>)"}, {"aB", true, "(<41,61><42,62>)"}, {"aB", false, "(<61><42>)"}, {"aaa", false, "(<61><61><61>)"}, {"a b\n", true, "(<41,61><20><42,62><0a>)"}, {"\xc3\xa4", false, "(<c3><a4>)"},
		{"a*", false, "(<61><2a>)"}, {"*", false, "<2a>"}, {"[a]", false, "(<5b><61><5d>)"}, {"[", false, "<5b>"}, {`\`, false, "<5c>"}, {`\(`, false, "(<5c><28>)"}, {`\n`, true, "(<5c><4e,6e>)"}, {"^$", false, "(<5e><24>)"}, {".", false, "<2e>"}, {"a|b", false, "(<61><7c><62>)"}, {"(", false, "<28>"}, {"a{256}", false, "(<61><7b><32><35><36><7d>)"},
		{strings.Repeat("ab", 20000), false, "(" + strings.Repeat("<61><62>", 20000) + ")"},
	} {
		if !is(t, regex.Literal(x.s, x.fold), x.want) {
			t.Logf("of Literal(%.80q, %v)", x.s, x.fold)
		}
	}
	for c := range 256 {
		b := oneOf(c)
		is(t, regex.Literal(b, false), setOf(b))
		is(t, regex.Literal(b, true), setOf(both(b)))
		is(t, regex.Literal(b+"x"+b, true), "("+setOf(both(b))+"<58,78>"+setOf(both(b))+")")
	}
}

func TestAny(t *testing.T) {
	a, bc, d := regex.Literal("a", false), extended.given(t, "b|c"), extended.given(t, "d*")
	empty, many := regex.Literal("", false), extended.given(t, "(a{100}){99}")
	for _, x := range []struct {
		l    []*regex.Re
		want string
	}{
		{nil, "<>"},
		{[]*regex.Re{}, "<>"},
		{[]*regex.Re{a}, "<61>"},
		{[]*regex.Re{bc}, "(<62>|<63>)"},
		{[]*regex.Re{empty}, "()"},
		{[]*regex.Re{a, d}, "(<61>|<64>{0,})"},
		{[]*regex.Re{d, a}, "(<64>{0,}|<61>)"},
		{[]*regex.Re{a, a}, "(<61>|<61>)"},
		{[]*regex.Re{a, bc, d}, "(<61>|(<62>|<63>)|<64>{0,})"},
		{[]*regex.Re{empty, empty, empty}, "(()|()|())"},
		{[]*regex.Re{regex.Any(nil), a}, "(<>|<61>)"},
		{[]*regex.Re{regex.Any(nil)}, "<>"},
		{[]*regex.Re{regex.Any([]*regex.Re{a, d}), regex.Any([]*regex.Re{bc})}, "((<61>|<64>{0,})|(<62>|<63>))"},
		{[]*regex.Re{many, many}, "(<61>{100,100}{99,99}|<61>{100,100}{99,99})"},
	} {
		is(t, regex.Any(x.l), x.want)
	}
	var l []*regex.Re
	for range 20000 {
		l = append(l, a)
	}
	is(t, regex.Any(l), "("+strings.Repeat("<61>|", 19999)+"<61>)")
}

func TestWhole(t *testing.T) {
	is(t, regex.Whole(regex.Literal("", false)), "(^()$)")
	is(t, regex.Whole(regex.Literal("a", true)), "(^<41,61>$)")
	is(t, regex.Whole(regex.Literal("ab", false)), "(^(<61><62>)$)")
	is(t, regex.Whole(extended.given(t, "a|b")), "(^(<61>|<62>)$)")
	is(t, regex.Whole(extended.given(t, "a*")), "(^<61>{0,}$)")
	is(t, regex.Whole(extended.given(t, "^a$")), "(^(^<61>$)$)")
	is(t, regex.Whole(regex.Any(nil)), "(^<>$)")
	is(t, regex.Whole(regex.Whole(basic.given(t, "^"))), "(^(^^$)$)")
	is(t, regex.Any([]*regex.Re{regex.Whole(regex.Literal("a", false)), regex.Literal("b", false)}), "((^<61>$)|<62>)")
}

// Nodes may stand very deep within one another.
func TestDeepNodes(t *testing.T) {
	const deep = 300000
	r := regex.Literal("a", false)
	for range deep {
		r = regex.Whole(r)
	}
	if want := strings.Repeat("(^", deep) + "<61>" + strings.Repeat("$)", deep); r.String() != want {
		t.Errorf("%.80s", r.String())
	}
	n := r.Node()
	for range deep {
		if n.Kind != regex.Cat || len(n.Kids) != 3 || n.Kids[0].Kind != regex.Begin || n.Kids[2].Kind != regex.End {
			t.Fatalf("a node of the kind %d with %d kids", n.Kind, len(n.Kids))
		}
		n = n.Kids[1]
	}
	if !same(n, set("a")) {
		t.Errorf("a node of the kind %d", n.Kind)
	}
	if r.Size() != 3*deep+1 {
		t.Errorf("the size is %d", r.Size())
	}
}

// P15.6

func TestTold(t *testing.T) {
	extended.rows(t,
		row{"[^\x00-\xff]", "<>"},
		row{"\x00", "<00>"},
		row{"\xff", "<ff>"},
		row{"[\x00-\x01]", "<00-01>"},
		row{"[\xfe-\xff]", "<fe-ff>"},
		row{"[\x00\xff]", "<00,ff>"},
		row{"[\x00-\x05\xf0-\xff]", "<00-05,f0-ff>"},
		row{"[^\x80]", "<00-7f,81-ff>"},
		row{"[\x00-\xfe]", "<00-fe>"},
		row{"[\x01-\xff]", "<01-ff>"},
		row{".", "<00-ff>"},
		row{"[ac]", "<61,63>"},
		row{"[ab]", "<61-62>"},
		row{"[zxya]", "<61,78-7a>"},
		row{"[\x0a\x0b\xab\xba]", "<0a-0b,ab,ba>"},
		row{"[cbaedf]", "<61-66>"},
		row{"a{0}b{10}c{255}d{7,}e{8,19}", "(<61>{0,0}<62>{10,10}<63>{255,255}<64>{7,}<65>{8,19})"},
		row{"(a|b)(c|d)", "((<61>|<62>)(<63>|<64>))"},
		row{"^$^", "(^$^)"},
	)
	basic.rows(t, row{"", "()"}, row{`\(\)\(\)`, "(()())"}, row{`a\(\)*`, "(<61>(){0,})"})
	alternate, all := "", ""
	for c := range 256 {
		if c%2 == 0 {
			alternate += oneOf(c)
		}
		all += "[=" + oneOf(c) + "=]"
	}
	// Every other byte, from 00 on: as many ranges as there can be.
	r := extended.given(t, "["+alternate+"]")
	if got := r.String(); strings.Count(got, ",") != 127 || !strings.HasPrefix(got, "<00,02,04,06,08,0a,0c,0e,10,12,") || !strings.HasSuffix(got, ",f8,fa,fc,fe>") {
		t.Error(got)
	}
	extended.reads(t, "["+all+"]", anyByte)
}

// R4

// Nodes that were handed out are the caller's: nobody else has any of them.
func TestNodesAreNew(t *testing.T) {
	a := extended.given(t, "(a|[bc]{2,3})*x")
	for _, r := range []*regex.Re{a, regex.Literal("ab", true), regex.Literal("", true), regex.Any([]*regex.Re{a, a}), regex.Any([]*regex.Re{a}), regex.Any(nil), regex.Whole(a), regex.Whole(regex.Whole(a)), basic.given(t, "")} {
		want, size := r.String(), r.Size()
		first, second := r.Node(), r.Node()
		seen := map[*regex.Node]int{}
		mark(first, seen)
		mark(second, seen)
		for _, n := range seen {
			if n != 1 {
				t.Errorf("%s: a node stands there %d times", want, n)
			}
		}
		spoil(first)
		if got := told(t, second); got != want {
			t.Errorf("%s became %s", want, got)
		}
		spoil(second)
		if is(t, r, want); r.Size() != size {
			t.Errorf("%s: the size became %d", want, r.Size())
		}
	}
	is(t, a, "((<61>|<62-63>{2,3}){0,}<78>)")
}

func mark(n *regex.Node, seen map[*regex.Node]int) {
	seen[n]++
	for _, k := range n.Kids {
		mark(k, seen)
	}
}

// spoil changes all of nodes, the room behind their lists' ends too.
func spoil(n *regex.Node) {
	for _, k := range n.Kids {
		spoil(k)
	}
	kids := n.Kids[:cap(n.Kids)]
	for i := range kids {
		kids[i] = nil
	}
	*n = regex.Node{Kind: 99, Min: 7, Max: 3}
	for c := range n.Has {
		n.Has[c] = c%3 == 0
	}
}

// A list that was handed in is neither changed nor kept, the room behind its end neither.
func TestListsAreNotKept(t *testing.T) {
	a, b, c := regex.Literal("a", false), regex.Literal("b", false), regex.Literal("c", false)
	for n := range 4 {
		room := []*regex.Re{a, b, c, a, b, c}
		r := regex.Any(room[:n])
		want := r.String()
		if !reflect.DeepEqual(room, []*regex.Re{a, b, c, a, b, c}) {
			t.Errorf("Any of %d changed its list", n)
		}
		for i := range room {
			room[i] = nil
		}
		is(t, r, want)
		room[0] = regex.Whole(c)
		is(t, r, want)
	}
	is(t, a, "<61>")
	is(t, b, "<62>")
	is(t, c, "<63>")
}

// What others are made of stays as it is.
func TestPartsStayAsTheyAre(t *testing.T) {
	a, b := extended.given(t, "a|b"), extended.given(t, "c*d")
	for range 3 {
		regex.Any([]*regex.Re{a, b, a})
		regex.Whole(a)
		regex.Whole(regex.Any([]*regex.Re{b}))
		is(t, a, "(<61>|<62>)")
		is(t, b, "(<63>{0,}<64>)")
	}
	one := regex.Any([]*regex.Re{a})
	spoil(one.Node())
	is(t, a, "(<61>|<62>)")
	is(t, one, "(<61>|<62>)")
}

// R5

// What is answered hangs on what is given alone, whatever was read before.
func TestAnswersHangOnNothingElse(t *testing.T) {
	texts := []string{"a", "ab*", "(a|b){2,5}", "", "*", "[[:alpha:]-z]", "[z-a]", `\(a\)\{3\}`, "(", `\(`, "[", "^*$", strings.Repeat("a", 10000), "((a))"}
	type answer struct {
		told string
		size int
		e    api.Errno
	}
	ask := func(s string, h how) answer {
		r, e := h.parse(s)
		if r == nil {
			return answer{e: e}
		}
		return answer{r.String(), r.Size(), e}
	}
	first := map[string]answer{}
	for round := range 4 {
		for i := range texts {
			s := texts[(i*(2*round+1))%len(texts)]
			for _, h := range everyHow {
				key, got := h.String()+s, ask(s, h)
				if want, ok := first[key]; ok && got != want {
					t.Errorf("%.80q %s: %v, then %v", s, h, want, got)
				}
				first[key] = got
			}
		}
	}
}
