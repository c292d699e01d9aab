package regex_test

import (
	"math"
	"math/big"
	"strconv"
	"strings"
	"testing"

	"toolchest/api"
	"toolchest/regex"
)

// P15.4

// sizes fails, if a text's size is another one; above 10000 it is too great.
func (h how) sizes(t *testing.T, s string, want int) {
	t.Helper()
	if want > 10000 {
		h.refuses(t, s, api.ErrMany)
		return
	}
	if r := h.given(t, s); r.Size() != want {
		t.Errorf("%.80q %s: the size is %d, not %d", s, h, r.Size(), want)
	}
}

func TestSizes(t *testing.T) {
	for _, x := range []struct {
		s    string
		size int
	}{
		{"a", 1}, {".", 1}, {"[a-z]", 1}, {"[^\x00-\xff]", 1}, {"^", 1}, {"$", 1}, {"(a)", 1}, {"((^))", 1}, {`\.`, 1},
		{"ab", 3}, {"abc", 4}, {"a.", 3}, {"^a$", 4}, {"^$", 3}, {"(a)b", 3}, {"(ab)c", 5}, {"a(bc)d", 6}, {"((ab)c)d", 7}, {"(ab)(cd)", 7},
		{"a|b", 3}, {"a|b|c", 4}, {"(a|b)", 3}, {"(a|b)|c", 5}, {"ab|c", 5}, {"ab|cd", 7}, {"(a|b)c", 5},
		{"a*", 2}, {"a+", 2}, {"a?", 2}, {"a{0}", 2}, {"a{1}", 2}, {"a{2}", 3}, {"a{7}", 8}, {"a{255}", 256},
		{"a{0,}", 2}, {"a{1,}", 2}, {"a{2,}", 3}, {"a{255,}", 256}, {"a{0,0}", 2}, {"a{0,1}", 2}, {"a{0,2}", 3}, {"a{1,2}", 3}, {"a{2,2}", 3}, {"a{3,9}", 10}, {"a{0,255}", 256}, {"a{254,255}", 256},
		{"(ab)*", 4}, {"(ab){0}", 4}, {"(ab){0,0}", 4}, {"(ab){1}", 4}, {"(ab){2}", 7}, {"(ab){0,2}", 7}, {"(ab){5,}", 16}, {"(ab)+c", 6}, {"(ab){3}c", 12}, {"(a|b){3}", 10},
		{"(a*)*", 3}, {"((a*)*)*", 4}, {"(a{2}){3}", 10}, {"(a{2}){3,}", 10}, {"(a{2}){0}", 4}, {"(a{0}){3}", 7}, {"((a{2}){3}){4}", 41}, {"(a{2}b{3}){4}", 33}, {"(a{2}|b{3}){4}", 33}, {"(a{100}){99}", 10000}, {"(a{99}){100}", 10001},
		{"a{255}{1}", 0},
	} {
		if x.size == 0 {
			extended.refuses(t, x.s, api.ErrRegex)
			continue
		}
		extended.sizes(t, x.s, x.size)
		extendedFold.sizes(t, x.s, x.size)
		if !strings.ContainsAny(x.s, "|+?") {
			s := strings.NewReplacer("(", `\(`, ")", `\)`, "{", `\{`, "}", `\}`).Replace(x.s)
			basic.sizes(t, s, x.size)
			basicFold.sizes(t, s, x.size)
		}
	}
	for s, want := range map[string]int{"": 1, `\(\)`: 1, `\(\)\(\)`: 3, `a\(\)`: 3, `\(\)*`: 2, `\(\)\{9\}`: 10} {
		basic.sizes(t, s, want)
	}
}

// The greatest ones that may be, and those that are greater by one, of each shape.
func TestTheGreatestSize(t *testing.T) {
	many := func(s string, n int) string { return strings.Repeat(s, n) }
	for _, x := range []struct {
		s    string
		size int
	}{
		{many("a", 9999), 10000}, {many("a", 10000), 10001}, {many("a", 10001), 10002}, {many("a", 10002), 10003}, {many("a", 20000), 20001}, {many(".", 9999), 10000}, {many("[ab]", 10000), 10001}, {"^" + many("a", 9998), 10000}, {"^" + many("a", 9999), 10001},
		{"a" + many("|a", 9998), 10000}, {"a" + many("|a", 9999), 10001}, {"a" + many("|a", 10000), 10002}, {"aa" + many("|a", 9996), 10000}, {"aa" + many("|a", 9997), 10001},
		{many("a*", 4999), 9999}, {many("a*", 4999) + "b", 10000}, {many("a*", 5000), 10001}, {many("a*", 5001), 10003}, {many("a*", 9000), 18001},
		{many("(", 9999) + "a" + many(")*", 9999), 10000}, {many("(", 10000) + "a" + many(")*", 10000), 10001}, {many("(", 10001) + "a" + many(")*", 10001), 10002}, {many("(", 30000) + "a" + many(")*", 30000), 30001},
		{many("(a", 4999) + many(")", 4999), 9997}, {many("(a", 4999) + "b" + many(")", 4999), 9999}, {many("(a", 4999) + "bc" + many(")", 4999), 10000}, {many("(a", 4999) + "bcd" + many(")", 4999), 10001}, {many("(a", 30000) + many(")", 30000), 59999},
		{many("(a|", 4999) + "a" + many(")", 4999), 9999}, {many("(a|", 4999) + "a*" + many(")", 4999), 10000}, {many("(a|", 5000) + "a" + many(")", 5000), 10001},
		{"(a{100}){99}", 10000}, {"(a{99}){100}", 10001}, {"(a{100}){99}b", 10002}, {"((a{100}){99})*", 10001}, {"((a{100}){99}){0}", 10001}, {"(a{255}){39}" + many("b", 14), 10000}, {"(a{255}){39}" + many("b", 15), 10001},
		{"(" + many("a", 9998) + ")*", 10000}, {"(" + many("a", 9999) + ")*", 10001}, {"(" + many("a", 4998) + "){2}", 9999}, {"(" + many("a", 4999) + "){2}", 10001}, {"(" + many("a", 4999) + "){2,}", 10001}, {"(" + many("a", 4999) + "){0,2}", 10001}, {"(" + many("a", 4999) + "){1,}", 5001}, {"(" + many("a", 4999) + "){0}", 5001},
	} {
		extended.sizes(t, x.s, x.size)
		extendedFold.sizes(t, x.s, x.size)
		if !strings.Contains(x.s, "|") {
			s := strings.NewReplacer("(", `\(`, ")", `\)`, "{", `\{`, "}", `\}`).Replace(x.s)
			basic.sizes(t, s, x.size)
		}
	}
	basic.sizes(t, many(`\(\)`, 9999), 10000)
	basic.sizes(t, many(`\(\)`, 10000), 10001)
	basic.sizes(t, many(`\(\)`, 30000), 30001)
}

// Repetitions within one another, whose size is soon no number of 64 bits.
func TestRepetitionsWithinOneAnother(t *testing.T) {
	for n := range 200 {
		for _, times := range []string{"{255}", "{0,255}", "{255,}", "{2}", "{16}", "{128}", "{0,2}"} {
			s := strings.Repeat("(", n) + "a" + strings.Repeat(")"+times, n)
			size, factor := 1, map[string]int{"{255}": 255, "{0,255}": 255, "{255,}": 255, "{2}": 2, "{16}": 16, "{128}": 128, "{0,2}": 2}[times]
			for range n {
				size = min(1+size*factor, 20000)
			}
			extended.sizes(t, s, size)
			extended.sizes(t, "b|"+s, size+2)
			extended.sizes(t, s+s+"b", 2*size+2)
			extended.refuses(t, s+")", api.ErrRegex)
			extended.refuses(t, "("+s, api.ErrRegex)
		}
	}
}

// ofSize is an extended expression of just that size.
func ofSize(size *big.Int) string {
	if size.Cmp(big.NewInt(2)) == 0 {
		return "a*"
	}
	if size.Cmp(big.NewInt(600)) < 0 {
		return strings.Repeat("a", max(1, int(size.Int64())-1))
	}
	// 255 times something, and behind it as many bytes as are lacking.
	const times = 255
	q, bytes := new(big.Int).DivMod(new(big.Int).Sub(size, big.NewInt(3)), big.NewInt(times), new(big.Int))
	return "(" + ofSize(q) + "){255}" + strings.Repeat("a", int(bytes.Int64())+1)
}

// Sizes that would be small, if they were counted by numbers of fewer bits than it takes.
func TestSizesThatWrapRound(t *testing.T) {
	for n := 1; n < 10300; n++ {
		if n < 1200 || n > 9800 || n%17 == 0 {
			extended.sizes(t, ofSize(big.NewInt(int64(n))), n)
		}
	}
	for _, bits := range []uint{14, 16, 31, 32, 33, 63, 64, 65, 128} {
		for k := range int64(20) {
			great := new(big.Int).Lsh(big.NewInt(1), bits)
			for _, size := range []*big.Int{new(big.Int).Add(great, big.NewInt(k*k*k)), new(big.Int).Sub(great, big.NewInt(k)), new(big.Int).Add(new(big.Int).Mul(great, big.NewInt(k+1)), big.NewInt(k))} {
				s := ofSize(size)
				extended.refuses(t, s, api.ErrMany)
				extended.refuses(t, s+s, api.ErrMany)
			}
		}
		// The last repetition is just what wraps round.
		for times := int64(2); times < 256; times++ {
			inner := new(big.Int).Div(new(big.Int).Lsh(big.NewInt(1), bits), big.NewInt(times))
			for range 3 {
				extended.refuses(t, "("+ofSize(inner)+"){"+strconv.Itoa(int(times))+"}", api.ErrMany)
				inner.Add(inner, big.NewInt(1))
			}
		}
	}
}

// What may not be is said ahead of what is too great, wherever it stands.
func TestErrorsInOrder(t *testing.T) {
	great := strings.Repeat("a", 20000)
	for _, s := range []string{"(", ")", "*", "a**", "|", "|a", "a|", "()", `\a`, "[", "[]", "[z-a]", "[[:x:]]", "a{2,1}", "a{256}", "^*", "(a", "a)", "(a{255}){255}{2}"} {
		for _, whole := range []string{s + "|" + great, great + "|" + s, "(" + great + "|" + s + ")", great + "(" + s + ")", great + "|" + s + "|" + great, "(a{255}){255}|" + s} {
			extended.refuses(t, whole, api.ErrRegex)
			extendedFold.refuses(t, whole, api.ErrRegex)
		}
	}
	extended.refuses(t, "", api.ErrRegex)
	extended.refuses(t, great+"|", api.ErrRegex)
	extended.refuses(t, great+`\`, api.ErrRegex)
	extended.refuses(t, great+"**", api.ErrRegex)
	extended.refuses(t, great+"^*", api.ErrRegex)
	extended.refuses(t, great+"()", api.ErrRegex)
	for _, s := range []string{`\(`, `\)`, "a**", `\`, `\a`, "[", "[]", "[z-a]", "[[:x:]]", `a\{2,1\}`, `a\{256\}`, `^\{2\}`, `\(a`, `a\)`, `\{1\}`, `\(a\{255\}\)\{255\}*`} {
		for _, whole := range []string{s + great, great + `\(` + s + `\)`, `\(` + s + `\)` + great, great + s} {
			if whole != great+`\{1\}` && whole != great+`^\{2\}` { // these are fine behind others
				basic.refuses(t, whole, api.ErrRegex)
			}
		}
	}
	basic.refuses(t, great+`\{1\}`, api.ErrMany)
	basic.refuses(t, great+"*", api.ErrMany)
	basic.refuses(t, great+`\(\)`, api.ErrMany)
	basic.refuses(t, great+`^\{2\}`, api.ErrMany)
	basic.refuses(t, great+`\($\)\(^*\)`, api.ErrMany)
	extended.refuses(t, great+"|(b|c)*", api.ErrMany)
}

// Parentheses may be as deep as they like.
func TestDeepParentheses(t *testing.T) {
	for _, n := range []int{1000, 9999, 10000, 10001, 100000, 1000000} {
		open, shut := strings.Repeat("(", n), strings.Repeat(")", n)
		extended.reads(t, open+"a"+shut, "<61>")
		extended.reads(t, open+"[]()]"+shut+"*", "<28-29,5d>{0,}")
		extended.reads(t, open+"a|^"+shut+"b", "((<61>|^)<62>)")
		extended.refuses(t, open+"a"+shut[1:], api.ErrRegex)
		extended.refuses(t, open+"a"+shut+")", api.ErrRegex)
		extended.refuses(t, open+shut, api.ErrRegex)
		extended.refuses(t, open, api.ErrRegex)
		extended.refuses(t, shut, api.ErrRegex)
		open, shut = strings.Repeat(`\(`, n), strings.Repeat(`\)`, n)
		basic.reads(t, open+"a"+shut, "<61>")
		basic.reads(t, open+shut, "()")
		basic.reads(t, open+"^*"+shut+`\{3\}`, "(^<2a>){3,3}")
		basic.refuses(t, open+"a"+shut[2:], api.ErrRegex)
		basic.refuses(t, open+"a"+shut+`\)`, api.ErrRegex)
	}
	n := 1000000
	extended.refuses(t, strings.Repeat("(", n)+"a"+strings.Repeat(")*", n), api.ErrMany)
	extended.refuses(t, strings.Repeat("(a|", n)+"a"+strings.Repeat(")", n), api.ErrMany)
	extended.refuses(t, strings.Repeat("(a", n)+strings.Repeat(")b", n), api.ErrMany)
	extended.refuses(t, strings.Repeat("(a", n)+strings.Repeat(")b", n)+")", api.ErrRegex)
	extended.reads(t, strings.Repeat("(a|", 4999)+"a"+strings.Repeat(")", 4999), strings.Repeat("(<61>|", 4999)+"<61>"+strings.Repeat(")", 4999))
	extended.reads(t, strings.Repeat("(", 9999)+"a"+strings.Repeat(")?", 9999), "<61>"+strings.Repeat("{0,1}", 9999))
}

func TestGreatTexts(t *testing.T) {
	for _, s := range []string{"a", "[ab]", "a|", "(a*|b)", "(a)?", "^", `\.`, "a{3}"} {
		long := strings.Repeat(s, 1<<18) + "a"
		extended.refuses(t, long, api.ErrMany)
		extended.refuses(t, long+")", api.ErrRegex)
	}
}

// Sizes of what is made of others have no greatest number.
func TestSizesOfWhatIsMade(t *testing.T) {
	for _, n := range []int{0, 1, 2, 3, 9998, 9999, 10000, 10001, 100000} {
		want := n + 1
		if n < 2 {
			want = 1
		}
		r := regex.Literal(strings.Repeat("a", n), n%2 == 0)
		if r.Size() != want {
			t.Errorf("Literal of %d bytes: %d", n, r.Size())
		}
		if got := regex.Whole(r).Size(); got != want+3 {
			t.Errorf("Whole of Literal of %d bytes: %d", n, got)
		}
		if got := regex.Any([]*regex.Re{r, r, r}).Size(); got != 3*want+1 {
			t.Errorf("Any of Literals of %d bytes: %d", n, got)
		}
		if got := regex.Any([]*regex.Re{r}).Size(); got != want {
			t.Errorf("Any of one Literal of %d bytes: %d", n, got)
		}
	}
	r := extended.given(t, "(a{100}){99}")
	for n, want := range []int{10000, 10003, 10006, 10009} {
		if r.Size() != want {
			t.Errorf("Whole %d times: %s", n, strconv.Itoa(r.Size()))
		}
		r = regex.Whole(r)
	}
	if none := regex.Any(nil); none.Size() != 1 {
		t.Errorf("Any of none: %d", none.Size())
	}
	// Of two that are one, again and again: no more than a number can be.
	r = regex.Literal("a", false)
	for n, size := 0, 1; n < 200; n++ {
		if r.Size() != size {
			t.Errorf("%d times: %d, not %d", n, r.Size(), size)
		}
		r = regex.Any([]*regex.Re{r, r})
		if size > math.MaxInt/2 {
			size = math.MaxInt
		} else {
			size = 2*size + 1
		}
	}
}
