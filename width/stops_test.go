package width_test

import (
	"math"
	"reflect"
	"regexp"
	"strconv"
	"strings"
	"testing"

	"toolchest/width"
)

// P11.1

func TestStops(t *testing.T) {
	for _, c := range []struct {
		list string
		want []int
	}{
		{"1", []int{1}},
		{"8", []int{8}},
		{"2147483647", []int{2147483647}},
		{"007", []int{7}},
		{"00000000000000000000000000000001", []int{1}},
		{"1,2", []int{1, 2}},
		{"1 2", []int{1, 2}},
		{"1\t2", []int{1, 2}},
		{"4,8 15\t16,23", []int{4, 8, 15, 16, 23}},
		{"1,2147483647", []int{1, 2147483647}},
		{"2147483646 2147483647", []int{2147483646, 2147483647}},
		{"9,10", []int{9, 10}}, // as numbers
		{"2,010", []int{2, 10}},
	} {
		got, ok := width.Stops(c.list)
		if !ok || !reflect.DeepEqual(got, c.want) {
			t.Errorf("%q: %v, %v, not %v", c.list, got, ok, c.want)
		}
	}
}

// wrongStops are texts that are no list of stops.
func wrongStops() []string {
	return []string{
		"", "0", "00", "2147483648", "9223372036854775808", "18446744073709551617", "99999999999999999999999",
		"0,1", "1,0", "1,1", "2,1", "1,2,2", "1,3,2", "8 8", "10\t9", "2147483647,1", "1,2147483648", "2147483647,2147483648", "07,7",
		",", " ", "\t", ",1", " 1", "\t1", "1,", "1 ", "1\t", "1,,2", "1  2", "1\t\t2", "1, 2", "1 ,2", "1,\t2", "1,2,", ",,",
		"-1", "+1", "-", "1-2", "1,-2", "1,+2", "x", "1x", "x1", "1,x", "1.5", "1;2", "1:2", "1/2", "/8", "1\n2", "1\n", "1\r2", "1\v2", "1\f2", "1\x002", "\x001", "1\xff", "1\u00a02", "\u0661", "0x1", "1_0", "1e1",
	}
}

func TestTextsThatAreNoStops(t *testing.T) {
	for _, list := range wrongStops() {
		if got, ok := width.Stops(list); ok || len(got) > 0 {
			t.Errorf("%q: %v, %v", list, got, ok)
		}
	}
}

var listsOfStops = regexp.MustCompile(`^\d+([, \t]\d+)*$`)

// stopsOf are the stops of a list, by an expression; nil: it may not be.
func stopsOf(list string) []int {
	if !listsOfStops.MatchString(list) {
		return nil
	}
	var stops []int
	for _, digits := range regexp.MustCompile(`[, \t]`).Split(list, -1) {
		n, err := strconv.ParseInt(digits, 10, 32)
		if err != nil || n == 0 || len(stops) > 0 && stops[len(stops)-1] >= int(n) {
			return nil
		}
		stops = append(stops, int(n))
	}
	return stops
}

// Every text of up to six of these bytes is a list, or none, as an expression tells.
func TestEveryShortList(t *testing.T) {
	for _, s := range everyText(6, "0", "1", "3", ",", " ", "\t", "x") {
		want := stopsOf(s)
		got, ok := width.Stops(s)
		if ok != (want != nil) || len(got) != len(want) || len(got) > 0 && !reflect.DeepEqual(got, want) {
			t.Fatalf("%q: %v, %v, not %v", s, got, ok, want)
		}
	}
}

// everyText are all texts of up to so many signs.
func everyText(most int, signs ...string) []string {
	all := []string{""}
	for begin := 0; most > 0; most-- {
		end := len(all)
		for _, s := range all[begin:end] {
			for _, sign := range signs {
				all = append(all, s+sign)
			}
		}
		begin = end
	}
	return all
}

func TestLongList(t *testing.T) {
	var parts []string
	for n := range 100000 {
		parts = append(parts, strconv.Itoa(n+1))
	}
	got, ok := width.Stops(strings.Join(parts, ","))
	if !ok || len(got) != 100000 || got[0] != 1 || got[99999] != 100000 {
		t.Errorf("%d stops, %v", len(got), ok)
	}
}

// R4: what is answered is its owner's, the room behind it too.
func TestStopsAreNotShared(t *testing.T) {
	first, _ := width.Stops("1,2,3")
	second, _ := width.Stops("1,2,3")
	for i := range first[:cap(first)] {
		first[:cap(first)][i] = 9
	}
	third, _ := width.Stops("1,2,3")
	if want := []int{1, 2, 3}; !reflect.DeepEqual(second, want) || !reflect.DeepEqual(third, want) {
		t.Errorf("%v and %v", second, third)
	}
}

func TestNext(t *testing.T) {
	const most, least = math.MaxInt, math.MinInt
	for _, c := range []struct {
		l    []int
		col  int
		want int
		ok   bool
	}{
		{nil, 0, 0, false},
		{nil, -1, 0, false},
		{[]int{}, 5, 0, false},
		{[]int{0}, 0, 0, false}, // below 1 alone
		{[]int{0}, -5, 0, false},
		{[]int{-8}, -20, 0, false},
		{[]int{-8}, 3, 0, false},
		{[]int{least}, least, 0, false},
		{[]int{8}, 0, 8, true},
		{[]int{8}, 1, 8, true},
		{[]int{8}, 7, 8, true},
		{[]int{8}, 8, 16, true},
		{[]int{8}, 9, 16, true},
		{[]int{8}, 800, 808, true},
		{[]int{1}, 0, 1, true},
		{[]int{1}, 7, 8, true},
		{[]int{2147483647}, 0, 2147483647, true},
		{[]int{2147483647}, 2147483646, 2147483647, true},
		{[]int{2147483647}, 2147483647, 4294967294, true},
		{[]int{8}, -1, 0, true}, // a multiple, too
		{[]int{8}, -8, 0, true},
		{[]int{8}, -9, -8, true},
		{[]int{8}, least, least + 8, true},
		{[]int{most}, 0, most, true},
		{[]int{most}, most, 0, false},
		{[]int{most}, -1, 0, true},
		{[]int{most}, -most, 0, true},
		{[]int{most}, least, -most, true},
		{[]int{8}, most, 0, false},
		{[]int{8}, most - 7, 0, false},
		{[]int{8}, most - 8, most - 7, true},
		{[]int{1}, most, 0, false},
		{[]int{1}, most - 1, most, true},
		{[]int{3, 7}, 0, 3, true},
		{[]int{3, 7}, 2, 3, true},
		{[]int{3, 7}, 3, 7, true},
		{[]int{3, 7}, 4, 7, true},
		{[]int{3, 7}, 6, 7, true},
		{[]int{3, 7}, 7, 0, false},
		{[]int{3, 7}, 8, 0, false},
		{[]int{3, 7}, -9, 3, true},
		{[]int{3, 7}, most, 0, false},
		{[]int{1, 2, 4, 2147483647}, 4, 2147483647, true},
		{[]int{7, 3}, 0, 7, true}, // as they stand
		{[]int{7, 3}, 5, 7, true},
		{[]int{2, 9, 4}, 3, 9, true},
		{[]int{2, 9, 4}, 8, 9, true},
		{[]int{9, 4, 2}, 9, 0, false},
		{[]int{5, 5}, 4, 5, true},
		{[]int{5, 5}, 5, 0, false},
		{[]int{0, 0}, 0, 0, false},
		{[]int{0, 0}, -1, 0, true},
		{[]int{-3, -1}, -2, -1, true},
		{[]int{-3, 4}, 0, 4, true},
		{[]int{least, most}, least, most, true},
	} {
		before := append([]int(nil), c.l...)
		got, ok := width.Next(c.l, c.col)
		if got != c.want || ok != c.ok {
			t.Errorf("%v, %d: %d, %v, not %d, %v", c.l, c.col, got, ok, c.want, c.ok)
		}
		if len(before) > 0 && !reflect.DeepEqual(before, c.l) {
			t.Errorf("%v, %d: the list is %v then", before, c.col, c.l)
		}
	}
}

// Every multiple is come to, one after the other.
func TestNextOfOneNumber(t *testing.T) {
	for n := 1; n < 20; n++ {
		for col := -60; col < 60; col++ {
			want := col + 1
			for want%n != 0 {
				want++
			}
			if got, ok := width.Next([]int{n}, col); !ok || got != want {
				t.Errorf("%d, %d: %d, %v, not %d", n, col, got, ok, want)
			}
		}
	}
}
