package flow

import (
	"bytes"
	"strings"

	"toolchest/api"
	"toolchest/opt"
	"toolchest/task"
	"toolchest/text"
)

// counts are how many line feeds, words and bytes there are.
type counts struct{ feeds, words, bytes int }

func (c *counts) add(more counts) {
	c.feeds += more.feeds
	c.words += more.words
	c.bytes += more.bytes
}

// line is the counts that are asked for (all, if none is), and texts behind them.
func (c *counts) line(asked []api.Opt, texts ...string) []byte {
	var l []string
	for _, count := range []struct {
		letter byte
		n      int
	}{{'l', c.feeds}, {'w', c.words}, {'c', c.bytes}} {
		if len(asked) == 0 || opt.Has(asked, count.letter) {
			l = append(l, text.Digits(count.n, 10))
		}
	}
	l = append(l, texts...)
	return []byte(strings.Join(l, " ") + "\n")
}

// counter counts bytes that come by chunks.
type counter struct {
	counts
	inWord bool // a word that goes on in the next chunk is one
}

func (c *counter) take(b []byte) {
	more := counts{feeds: bytes.Count(b, []byte{'\n'}), bytes: len(b)}
	for _, x := range b {
		wasInWord := c.inWord
		c.inWord = !partsWords(x)
		if c.inWord && !wasInWord {
			more.words++
		}
	}
	c.add(more)
}

func partsWords(x byte) bool { return x == 32 || x >= 9 && x <= 13 }

func wc(t *task.Task) {
	var sums counts
	for in := range t.Read(t.Operands) {
		var c counter
		for b := range in.Chunks() {
			c.take(b)
		}
		if in.Failed() {
			continue
		}
		sums.add(c.counts)
		if !t.Tell(c.line(t.Opts, textOf(t, in)...)) {
			return
		}
	}
	if len(t.Operands) > 1 {
		t.Tell(sums.line(t.Opts, "total"))
	}
}

// textOf is an input's text, unless no operand has named it.
func textOf(t *task.Task, in *task.Input) []string {
	if len(t.Operands) == 0 {
		return nil
	}
	return []string{in.Text}
}
