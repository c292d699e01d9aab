package flow

import (
	"bytes"
	"strings"

	"toolchest/api"
	"toolchest/opt"
	"toolchest/text"
)

// counts are how many line feeds, words and bytes there are.
type counts struct{ feeds, words, bytes int }

func (c *counts) add(more counts) {
	c.feeds += more.feeds
	c.words += more.words
	c.bytes += more.bytes
}

// line is the counts that are asked for (all, if none is), and texts behind them.
func (c *counts) line(asked []api.Opt, texts ...string) []byte {
	var l []string
	for _, count := range []struct {
		letter byte
		n      int
	}{{'l', c.feeds}, {'w', c.words}, {'c', c.bytes}} {
		if len(asked) == 0 || opt.Has(asked, count.letter) {
			l = append(l, text.Digits(count.n, 10))
		}
	}
	l = append(l, texts...)
	return []byte(strings.Join(l, " ") + "\n")
}

// counter counts bytes that come by chunks.
type counter struct {
	counts
	inWord bool // a word that goes on in the next chunk is one
}

func (c *counter) take(b []byte) {
	more := counts{feeds: bytes.Count(b, []byte{'\n'}), bytes: len(b)}
	for _, x := range b {
		wasInWord := c.inWord
		c.inWord = !partsWords(x)
		if c.inWord && !wasInWord {
			more.words++
		}
	}
	c.add(more)
}

func partsWords(x byte) bool { return x == 32 || x >= 9 && x <= 13 }

func wc(t *task) {
	var sums counts
	for _, operand := range t.inputs() {
		in, e := t.count(operand)
		if e != api.OK {
			t.fail(operand, e)
			continue
		}
		sums.add(in.counts)
		if !t.tell(in.line(t.opts, t.textOf(operand)...)) {
			return
		}
	}
	if len(t.operands) > 1 {
		t.tell(sums.line(t.opts, "total"))
	}
}

// count reads an input to its end; of one that fails nothing counts.
func (t *task) count(operand string) (counter, api.Errno) {
	var in counter
	for b, e := range t.chunks(operand) {
		if e != api.OK {
			return counter{}, e
		}
		in.take(b)
	}
	return in, api.OK
}

// textOf is an input's text, unless no operand has named it.
func (t *task) textOf(operand string) []string {
	if len(t.operands) == 0 {
		return nil
	}
	return []string{operand}
}
