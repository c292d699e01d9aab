package sortkit_test

import (
	"strings"
	"testing"

	"toolchest/api"
)

// P13.3: -c says it and -C does not; with both it is said.
func TestCheck(t *testing.T) {
	for _, c := range []struct {
		options, in string
		isInOrder   bool
	}{
		{"", "", true},
		{"", "\n", true},
		{"", "a", true},
		{"", "a\nb\n", true},
		{"", "a\nb", true},
		{"", "b\na\n", false},
		{"", "b\na", false},
		{"", "a\n\n", false},
		{"", "\na\n", true},
		{"", "\n\n", true},
		{"", "a\na\n", true},
		{"", "a\nab\nb\nba\nb\n", false},
		{"", "a\nb\nc\nd\ne\nf\ne\ng\n", false},
		{"", "a\nb\nc\nd\ne\nf\nf\ng\n", true},
		{"-u", "", true},
		{"-u", "\n", true},
		{"-u", "a\nb\n", true},
		{"-u", "b\na\n", false},
		{"-u", "a\na\n", false},
		{"-u", "a\nb\nb\n", false},
		{"-u", "\n\n", false},
		{"-u", "\na\n", true},
		// With -u just Keys are asked, without also the bytes.
		{"-f", "A\na\n", true},
		{"-f", "a\nA\n", false},
		{"-fu", "a\nA\n", false},
		{"-fu", "A\na\n", false},
		{"-fu", "a\nB\nc\n", true},
		{"-fr", "a\nA\n", true},
		{"-fr", "A\na\n", false},
		{"-n", "9\n10\n", true},
		{"-n", "10\n9\n", false},
		{"-n", "1\n01\n", false},
		{"-n", "01\n1\n", true},
		{"-nu", "01\n1\n", false},
		{"-nu", "x\n1\n", true},
		{"-nu", "x\ny\n", false},
		{"-r", "b\na\n", true},
		{"-r", "a\nb\n", false},
		{"-k2", "b 1\na 2\n", true},
		{"-k2", "a 2\nb 1\n", false},
		{"-k2", "b 1\na 1\n", false},
		{"-k2", "a 1\nb 1\n", true},
		{"-uk2", "a 1\nb 1\n", false},
		{"-t: -k2", "b:1\na:2\n", true},
		{"-t: -k2r", "b:1\na:2\n", false},
		{"-bdfi", "a\nb\n", true},
	} {
		for _, letters := range []string{"-c", "-C", "-cC", "-C -c", "-cc"} {
			says, status := "", 0
			if !c.isInOrder {
				status = 1
				if strings.Contains(letters, "c") {
					says = "sort: -: not in order\n"
				}
			}
			for _, l := range []api.Limits{lim(1, 8, 8), lim(3, 8, 100), lim(60, 60, 60)} {
				for _, operand := range []string{"", " -"} {
					j := job(c.in, "sort "+letters+" "+c.options+operand)
					j.Lim = l
					for _, signs := range []string{"", "i1i1i1", "111111111"} {
						j.Faults = faults(signs)
						comes(t, j, "", says, status)
					}
				}
			}
		}
	}
}

// The line has the input's text.
func TestCheckOfFiles(t *testing.T) {
	comes(t, job("q", "sort -c f"), "", "sort: f: not in order\n", 1)
	comes(t, job("q", "sort -C f"), "", "", 1)
	comes(t, job("q", "sort -c ./d/../f"), "", "sort: ./d/../f: not in order\n", 1)
	comes(t, job("q", "sort -c /f"), "", "sort: /f: not in order\n", 1)
	comes(t, job("q", "sort -c d/g"), "", "", 0)
	comes(t, job("q", "sort -c e"), "", "", 0)
	comes(t, job("b\na\n", "sort -c e"), "", "", 0)
	comes(t, job("q", "sort -c -- f"), "", "sort: f: not in order\n", 1)
}

// P13.3: the input's failures are told, with 2.
func TestCheckOfInputsThatFail(t *testing.T) {
	for _, letter := range []string{"-c", "-C", "-cu", "-Cn"} {
		comes(t, job("q", "sort "+letter+" x"), "", "sort: x: no such file\n", 2)
		comes(t, job("q", "sort "+letter+" d"), "", "sort: d: is a directory\n", 2)
		comes(t, job("q", "sort "+letter+" l"), "", "sort: l: line too long\n", 2)
		comes(t, job("q", "sort "+letter+" f/x"), "", "sort: f/x: not a directory\n", 2)
		comes(t, job("1\n2\n345678901\n1\n", "sort "+letter), "", "sort: -: line too long\n", 2)
		comes(t, faulty("1\n2\n3\n4\n", "sort "+letter, ".e"), "", "sort: -: input/output error\n", 2)
		comes(t, faulty("1\n2\n3\n4\n", "sort "+letter, "e"), "", "sort: -: input/output error\n", 2)
	}
	// What stands behind the first line that is not in order is not read.
	comes(t, job("b\na\n123456789\n", "sort -c"), "", "sort: -: not in order\n", 1)
	comes(t, job("b\na\n123456789\n", "sort -C"), "", "", 1)
	if r := comes(t, faulty("b\na\nb\nc\n", "sort -C", ".e"), "", "", 1); r.Used != 1 {
		t.Errorf("%d transfers", r.Used)
	}
}

// It holds the line before, and what its reader does; and it makes no file.
func TestCheckHolds(t *testing.T) {
	in := strings.Repeat("12345678\n", 200)
	for buf := 1; buf < 30; buf++ {
		j := job(in, "sort -c")
		j.Lim = lim(buf, 8, 8)
		if r := comes(t, j, "", "", 0); r.Peak > 2*8+buf {
			t.Errorf("Buf %d: %d bytes were held", buf, r.Peak)
		}
		r := newRig(t, j)
		m := r.start()
		for range 20 {
			m.Step()
			if l := r.spills(); len(l) > 0 {
				t.Fatalf("Buf %d: %q", buf, l)
			}
		}
	}
}

// What was sorted is in order; with -u there are no two that are the same.
func TestSortedIsInOrder(t *testing.T) {
	c := chanceOf(11)
	for range 3000 {
		options := c.order()
		j := jobOf(c.text(60), append([]string{"sort"}, options...)...)
		j.Lim = lim(1+c.Intn(5), 12, 12+c.Intn(40))
		j.In = run(t, j).Out
		j.Args = append([]string{"sort", "-c"}, options...)
		comes(t, j, "", "", 0)
		j.Args = append([]string{"sort", "-C"}, options...)
		comes(t, j, "", "", 0)
	}
}
