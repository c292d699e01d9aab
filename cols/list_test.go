package cols_test

import (
	"reflect"
	"strings"
	"testing"

	"toolchest/cols"
)

// P9.1

func TestList(t *testing.T) {
	const most = 2147483647
	for _, c := range []struct {
		list string
		want []cols.Span
	}{
		{"1", []cols.Span{{1, 1}}},
		{"7", []cols.Span{{7, 7}}},
		{"2147483647", []cols.Span{{most, most}}},
		{"2-5", []cols.Span{{2, 5}}},
		{"3-3", []cols.Span{{3, 3}}},
		{"1-2147483647", []cols.Span{{1, most}}},
		{"2147483647-2147483647", []cols.Span{{most, most}}},
		{"4-", []cols.Span{{4, most}}},
		{"2147483647-", []cols.Span{{most, most}}},
		{"-4", []cols.Span{{1, 4}}},
		{"-1", []cols.Span{{1, 1}}},
		{"-2147483647", []cols.Span{{1, most}}},
		{"007-0010", []cols.Span{{7, 10}}},
		{"00000000000000000000000000000001", []cols.Span{{1, 1}}},
		{"1,2", []cols.Span{{1, 1}, {2, 2}}},
		{"1 2", []cols.Span{{1, 1}, {2, 2}}},
		{"1\t2", []cols.Span{{1, 1}, {2, 2}}},
		{"9,2-3 -4\t5-,1", []cols.Span{{9, 9}, {2, 3}, {1, 4}, {5, most}, {1, 1}}},
		{"2-8,3-4,3-4,1-9,4", []cols.Span{{2, 8}, {3, 4}, {3, 4}, {1, 9}, {4, 4}}},
		{"2- -3", []cols.Span{{2, most}, {1, 3}}},
		{"5-,-5", []cols.Span{{5, most}, {1, 5}}},
	} {
		got, ok := cols.List(c.list)
		if !ok || !reflect.DeepEqual(got, c.want) {
			t.Errorf("%q: %v, %v, not %v", c.list, got, ok, c.want)
		}
	}
}

// wrongLists are texts that are no list.
func wrongLists() []string {
	return []string{
		"", "0", "00", "0-", "-0", "0-3", "3-0", "2147483648", "1-2147483648", "2147483648-", "-2147483648", "9223372036854775808", "18446744073709551617", "99999999999999999999999",
		"2-1", "10-9", "2147483647-2147483646", "-", "--", "-1-", "1--2", "1-2-3", "1--", "--1", "-1-2",
		",", " ", "\t", ",1", " 1", "\t1", "1,", "1 ", "1\t", "1,,2", "1  2", "1, 2", "1 ,2", "1,\t2", "1,2,", "-,1", "1,-", "1,0", "1,2-1,3",
		"x", "1x", "x1", "1-x", "+1", "1.5", "1;2", "1\n2", "1\n", "1\r2", "1\v2", "1\f2", "1\x002", "\x001", "1\xff", "1\u00a02", "1\u20032", "\u0661", "0x1", "1_0", "1e1", "a-b", "1:2",
	}
}

func TestTextsThatAreNoList(t *testing.T) {
	for _, list := range wrongLists() {
		if got, ok := cols.List(list); ok || len(got) > 0 {
			t.Errorf("%q: %v, %v", list, got, ok)
		}
	}
}

// Every text of up to six of these bytes is a list, or none, as a regular expression tells.
func TestEveryShortList(t *testing.T) {
	const letters = "013-, \tx"
	for n, all := 0, []string{""}; n <= 6; n++ {
		var longer []string
		for _, s := range all {
			var want []cols.Span
			for _, pair := range spansOf(s) {
				want = append(want, cols.Span{From: pair[0], To: pair[1]})
			}
			got, ok := cols.List(s)
			if ok != (want != nil) || len(got) != len(want) || len(got) > 0 && !reflect.DeepEqual(got, want) {
				t.Fatalf("%q: %v, %v, not %v", s, got, ok, want)
			}
			for _, c := range letters {
				longer = append(longer, s+string(c))
			}
		}
		all = longer
	}
}

func TestLongList(t *testing.T) {
	got, ok := cols.List(strings.Repeat("3-4,", 100000) + "1")
	if !ok || len(got) != 100001 || got[99999] != (cols.Span{From: 3, To: 4}) || got[100000] != (cols.Span{From: 1, To: 1}) {
		t.Errorf("%d spans, %v", len(got), ok)
	}
}

// R4: what is answered is its owner's, the room behind it too.
func TestListsAreNotShared(t *testing.T) {
	first, _ := cols.List("1,2-3,4-")
	second, _ := cols.List("1,2-3,4-")
	for i := range first[:cap(first)] {
		first[:cap(first)][i] = cols.Span{From: 9, To: 9}
	}
	third, _ := cols.List("1,2-3,4-")
	if want := []cols.Span{{1, 1}, {2, 3}, {4, 2147483647}}; !reflect.DeepEqual(second, want) || !reflect.DeepEqual(third, want) {
		t.Errorf("%v and %v", second, third)
	}
}
