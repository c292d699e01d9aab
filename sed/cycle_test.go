package sed_test

import (
	"strconv"
	"strings"
	"testing"
)

// P18.4: cycles, the line behind, addresses, ranges.

func TestCycles(t *testing.T) {
	for _, c := range []struct{ in, script, out, quiet string }{
		{"", "p", "", ""},
		{"", "$p", "", ""},
		{"\n", "p", "\n\n", "\n"},
		{"a", "p", "a\na\n", "a\n"}, // a last line without its line feed is told with one
		{"a\nb", "", "a\nb\n", ""},
		{"\n\na", "=", "1\n\n2\n\n3\na\n", "1\n2\n3\n"},
		{"\x00\xff\n\x80", "p", "\x00\xff\n\x00\xff\n\x80\n\x80\n", "\x00\xff\n\x80\n"},
		{"a\r\nb\r\n", "$s/$/x/", "a\r\nb\rx\n", ""},
		// Of each cycle: the pattern space, and behind it the texts of a, in order.
		{"a\nb\n", "a\\\none\na\\\ntwo", "a\none\ntwo\nb\none\ntwo\n", "one\ntwo\none\ntwo\n"},
		{"a\nb\n", "a\\\none\np;a\\\ntwo\np", "a\na\na\none\ntwo\nb\nb\nb\none\ntwo\n", "a\na\none\ntwo\nb\nb\none\ntwo\n"},
		{"a\nb\n", "1a\\\none\n2a\\\ntwo", "a\none\nb\ntwo\n", "one\ntwo\n"},
		// Each line is a new one.
		{"a\nb\n", "s/a/x/;s/$/y/", "xy\nby\n", ""},
		{"aa\nb\n", "1s/$/xxxx/;p", "aaxxxx\naaxxxx\nb\nb\n", "aaxxxx\nb\n"},
	} {
		edits(t, c.in, c.script, c.out, c.quiet)
	}
}

// Lines are numbered over all inputs; the last one is that behind which no input has a byte, also where they have none, and where its line feed lacks.
func TestLinesOfInputs(t *testing.T) {
	for _, c := range []struct{ in, args, out string }{
		{"z\n", "sed = -", "1\nz\n"},
		{"z\n", "sed = f - h", "1\na 1\n2\nb 2\n3\nab 3\n4\nz\n5\nx\n6\nB\n7\n\n8\nb\n"},
		{"z\n", "sed -n 4p f - h", "z\n"},
		{"z\n", "sed -n $= f - h", "8\n"},
		{"z\n", "sed -n $p -", "z\n"},
		{"z", "sed -n $p f -", "z\n"},
		{"z", "sed -n $p - f", "ab 3\n"},
		{"z", "sed -n $p - e", "z\n"},
		{"z", "sed -n $p - e e e", "z\n"},
		{"z", "sed -n $p e - e e", "z\n"},
		{"", "sed -n $p f -", "ab 3\n"},
		{"", "sed -n $p - e", ""},
		{"", "sed $d", ""},
		{"z\n", "sed -n $p e f e h e", "b\n"},
		{"z\n", "sed $!d h e - e", "z\n"},
		{"z\n", "sed -n 3,5p f - h", "ab 3\nz\nx\n"},
		{"z\n", "sed -n /3/,/B/p f - h", "ab 3\nz\nx\nB\n"},
		{"z\n", "sed -n h;n;H;x;s/\\n/-/p f h", "a 1-b 2\nab 3-x\nB-\n"},
		{"z\n", "sed -n -e $!{ -e n -e } -e p - e f e", "a 1\nab 3\n"},
		{"\n", "sed -n $= - blank", "2\n"},
	} {
		anyhow(t, job(c.in, c.args), c.out, "", 0)
	}
}

// seven are lines by which ranges are told: each command below tells the lines of which it is done.
const seven = "a1\nb2\na3\nc4\nb5\na6\nc7\n"

func TestAddresses(t *testing.T) {
	for _, c := range []struct{ address, done string }{
		{"", "1234567"},
		{"1", "1"},
		{"7", "7"},
		{"8", ""},
		{"$", "7"},
		{"/a/", "136"},
		{"/x/", ""},
		{`\,c.,`, "47"},
		{"/^/", "1234567"},
		{"//", ""},
		{"!", ""},
		{"1!", "234567"},
		{"8!", "1234567"},
		{"$!", "123456"},
		{"/a/!", "2457"},
		{"//!", "1234567"},
		{"/a/ ! ", "2457"},
		{"/a/!!", "2457"}, // as one of them
		{"/a/!!!", "2457"},
		{"/a/! !\t!", "2457"},
		{"!!", ""},
		// Ranges: the second address a number.
		{"2,4", "234"},
		{"2, 4", "234"},
		{"2,\t \t4", "234"},
		{"2,2", "2"},
		{"4,2", "4"},
		{"4,1", "4"},
		{"2,99", "234567"},
		{"8,9", ""},
		{"1,7", "1234567"},
		{"/a/,4", "12346"},
		{"/a/,2", "1236"},
		{"/a/,1", "136"},
		{"/a/,3", "1236"},
		{"/b/,5", "2345"},
		{"/b/,3", "235"},
		{"$,1", "7"},
		{"$,7", "7"},
		{"$,8", "7"},
		// An expression: it is looked for from the next line on.
		{"1,/a/", "123"},
		{"1,/b/", "12"},
		{"2,/b/", "2345"},
		{"/a/,/a/", "1236 7"},
		{"/a/,/b/", "1234567"},
		{"/b/,/a/", "2356"},
		{"/c/,/c/", "4567"},
		{"/b/,/x/", "234567"},
		{"/x/,/a/", ""},
		{"1,/x/", "1234567"},
		{"3,//", "34567"},
		{"/a/,//", "123 67"},
		{"/b/,//", "2345"},
		{"$,/a/", "7"},
		// The last line.
		{"3,$", "34567"},
		{"7,$", "7"},
		{"$,$", "7"},
		{"/b/,$", "234567"},
		{"8,$", ""},
		// Those that open anew.
		{"/a/,/[bc]/", "123467"},
		{"/[ab]/,/[abc]/", "123456"},
		{"/a/,/b2/", "1234567"},
		{"/b/,/c/", "234567"},
		{"/a/,/c4/", "1234 67"},
		// With `!`: where the range is not.
		{"2,4!", "1567"},
		{"/b/,/a/!", "147"},
		{"/a/,2!", "457"},
		{"1,$!", ""},
		{"4,2!!", "123567"},
	} {
		numbers, lines := "", ""
		for _, n := range strings.ReplaceAll(c.done, " ", "") {
			numbers += string(n) + "\n"
			lines += seven[3*(n-'1') : 3*(n-'0')]
		}
		tells(t, seven, numbers, "sed", "-n", c.address+"{=\n}")
		tells(t, seven, lines, "sed", "-n", "--", c.address+"p")
		tells(t, seven, lines, "sed", "-e", c.address+"b", "-e", "d")
	}
}

// A range whose second address is a number that has gone by, while the command was not come to.
func TestRangesGoneBy(t *testing.T) {
	for _, c := range []struct{ script, out string }{
		{"2,4{=;n;n;n;n;}", "2\n"},
		{"1,3{=;n;n;n;}", "1\n"}, // at 5 it has gone by: none is open
		{"/a/,3{=;n;n;n;}", "1\n6\n"},
		{"/[ab]/,3{=;n;n;n;}", "1\n5\n"},
		{"/a/,4{=;n;}", "1\n3\n6\n"},
		{"n;n;2,3{=;}", ""},
		{"2,4!{=;n;n;n;n;}", "1\n6\n"},
		{"N;N;2,4{=;}", ""},
		{"N;N;3,4{=;}", "3\n"},
		{"N;N;/a/,4{=;}", "3\n6\n"},
		{"N;N;/a/,3{=;}", "3\n6\n"},
		{"/b/n;/a/,2{=;}", "1\n3\n6\n"},
		{"1,2{N;N;=;}", "3\n"},
	} {
		tells(t, seven, c.out, "sed", "-n", c.script)
	}
	// A range is of its command alone, and is open from cycle to cycle.
	tells(t, seven, "2\n3\n3\n4\n", "sed", "-n", "2,3{=;};3,4{=;}")
	tells(t, seven, "1\n1\n2\n2\n", "sed", "-n", "1,2{=;};1,2{=;}")
	tells(t, seven, "2\n3\n5\n6\n", "sed", "-n", "/b/,/a/{=;}")
	// Where it is not come to, it is as it was.
	tells(t, seven, "1\n6\n7\n", "sed", "-n", "2,5d;/a1/,/x/{=;}")
	tells(t, seven, "1\n5\n", "sed", "-n", "2,4d;1,/b/{=;}")
	tells(t, seven, "2\n4\n6\n", "sed", "-n", "n;/b2/,/x/{=;}")
}

// D goes through the commands anew: the line is the same one, and so are addresses and ranges.
func TestAddressesBehindD(t *testing.T) {
	tells(t, "a\nb\n", "1\n1\n1\n", "sed", "-n", "1s/^a/x\\\ny\\\nz/;s/^z/-/;1=;D")
	tells(t, "a\nb\n", "x\ny\n", "sed", "-n", "1s/^a/x\\\ny\\\nz/;/x/,/y/P;D")
	tells(t, "a\nb\n", "a\n2\n2\n", "sed", "-n", "$!{N;P\n};$=;D;")
}

// What is read is told in the order of transfers: a line, then whether there is another one, then the commands.
func TestNoMoreIsRead(t *testing.T) {
	for n := 1; n < 6; n++ {
		for buf := 1; buf < 4; buf++ {
			j := jobOf("a\nb\nc\nd\ne\nf\ng\n", "sed", "-n", strconv.Itoa(n)+"q")
			j.Lim.Buf = buf
			r := newRig(t, j)
			r.result()
			// As many bytes were read as it takes to see one of the next line.
			read := (2*n + 1 + buf - 1) / buf * buf
			if left := r.left(); left != string(j.In[min(read, len(j.In)):]) {
				t.Errorf("%dq, Buf %d: %q is left", n, buf, left)
			}
		}
	}
}
