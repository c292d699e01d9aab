package logic_test

import (
	"math/big"
	"strconv"
	"strings"
	"testing"

	"toolchest/api"
)

// P20.4

func lawsOf(test func(a, b string)) {
	edges := []string{least, "-9223372036854775807", "-4611686018427387904", "-3037000500", "-2147483648", "-10", "-3", "-2", "-1", "-0", "0", "1", "2", "3", "007", "10", "2147483647", "3037000499", "4611686018427387904", "9223372036854775806", greatest}
	for _, a := range edges {
		for _, b := range edges {
			test(a, b)
		}
	}
	c := chanceOf(8)
	for range 1500 {
		test(c.sized(), c.sized())
	}
}

// sized is a number that has as many digits as may be, mostly fewer.
func (c chance) sized() string {
	n := c.Int63() >> c.Intn(63)
	return strconv.FormatInt([]int64{n, -n, -n - 1}[c.Intn(3)], 10)
}

// value is what expr tells; false: something goes wrong.
func value(t *testing.T, args ...string) (string, bool) {
	t.Helper()
	j := bare("expr", args...)
	r := run(t, j)
	if r.Status == 2 && len(r.Out) == 0 && len(r.Err) > 0 {
		return "", false
	}
	s, ok := strings.CutSuffix(string(r.Out), "\n")
	if !ok || len(r.Err) > 0 || (r.Status == 1) != (s == "0") || r.Status > 1 {
		t.Errorf("%q: told %q, said %q, %d", args, r.Out, r.Err, r.Status)
	}
	return s, true
}

// Of two numbers just one of -lt, -eq, -gt is true; the others are the other way round of these.
func TestJustOne(t *testing.T) {
	lawsOf(func(a, b string) {
		is := func(sign string) int {
			r := run(t, bare("test", a, sign, b))
			if r.Status > 1 || len(r.Err) > 0 {
				t.Errorf("%s %s %s: said %q, %d", a, sign, b, r.Err, r.Status)
			}
			return 1 - r.Status
		}
		if is("-lt")+is("-eq")+is("-gt") != 1 {
			t.Errorf("%s and %s: %d, %d, %d", a, b, is("-lt"), is("-eq"), is("-gt"))
		}
		if is("-lt")+is("-ge") != 1 || is("-eq")+is("-ne") != 1 || is("-gt")+is("-le") != 1 {
			t.Errorf("%s and %s: one and the other way round of it", a, b)
		}
	})
}

// What expr tells of a sum, it tells of the terms the other way round; what it takes away again is what was there.
func TestSumsTheOtherWayRound(t *testing.T) {
	wrong := 0
	lawsOf(func(a, b string) {
		sum, ok := value(t, a, "+", b)
		other, isOther := value(t, b, "+", a)
		if sum != other || ok != isOther {
			t.Errorf("%s and %s: %q, %q", a, b, sum, other)
		}
		if !ok {
			wrong++
			return
		}
		if same, _ := value(t, a, "+", b, "-", b, "=", a); same != "1" {
			t.Errorf("%s + %s - %s is not %s", a, b, b, a)
		}
	})
	if wrong < 50 {
		t.Errorf("%d sums can't be", wrong)
	}
}

// A quotient times the divisor and the rest are the dividend; the rest is less than the divisor, and on the dividend's side of 0.
func TestQuotients(t *testing.T) {
	wrong := 0
	lawsOf(func(a, b string) {
		quotient, ok := value(t, a, "/", b)
		rest, isRest := value(t, a, "%", b)
		x, y := valueOf(a), valueOf(b)
		isBeyond := x.Cmp(valueOf(least)) == 0 && y.Cmp(big.NewInt(-1)) == 0
		if ok == (y.Sign() == 0 || isBeyond) || isRest == (y.Sign() == 0) {
			t.Errorf("%s by %s: %q, %v, %q, %v", a, b, quotient, ok, rest, isRest)
		}
		if !ok {
			wrong++
			return
		}
		if all, _ := value(t, a, "/", b, "*", b, "+", a, "%", b, "=", a); all != "1" {
			t.Errorf("%s by %s: %q, %q", a, b, quotient, rest)
		}
		r := valueOf(rest)
		if r.CmpAbs(y) >= 0 || r.Sign()*x.Sign() < 0 {
			t.Errorf("%s by %s: the rest %s", a, b, rest)
		}
	})
	if wrong < 20 {
		t.Errorf("%d quotients can't be", wrong)
	}
}

// Parentheses may be as deep as they like, and an expression as long.
func TestDeepAndLong(t *testing.T) {
	const many = 100000
	repeat := func(n int, l ...string) []string {
		var all []string
		for range n {
			all = append(all, l...)
		}
		return all
	}
	with := func(l ...[]string) api.Job {
		args := []string{"expr"}
		for _, some := range l {
			args = append(args, some...)
		}
		return jobOf(args...)
	}
	comes(t, with(repeat(many, "("), []string{"7"}, repeat(many, ")")), "7\n", "", 0)
	comes(t, with(repeat(many, "("), []string{"7"}, repeat(many-1, ")")), "", "expr: usage\n", 2)
	comes(t, with(repeat(many, "("), []string{"7"}, repeat(many+1, ")")), "", "expr: usage\n", 2)
	comes(t, with(repeat(many, "("), repeat(many, ")")), "", "expr: usage\n", 2)
	comes(t, with(repeat(many, "1", "+"), []string{"1"}), "100001\n", "", 0)
	comes(t, with(repeat(many, "1", "+", "("), []string{"1"}, repeat(many, ")")), "100001\n", "", 0)
	comes(t, with(repeat(many, "(", "0", "-"), []string{"1"}, repeat(many, ")")), "1\n", "", 0)
	comes(t, with(repeat(many, "0", "|"), []string{"x"}), "x\n", "", 0)
	comes(t, with(repeat(many, "1", "/")), "", "expr: usage\n", 2)
	comes(t, with(repeat(many, "1", "/", "0", "+"), []string{"a"}), "", "expr: not a number\n", 2)
}
