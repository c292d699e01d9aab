package merge

import (
	"bytes"
	"strings"

	"toolchest/api"
	"toolchest/opt"
	"toolchest/text"
)

// row is a line by its fields. One that has none stands for a line that is not there.
type row struct {
	fields [][]byte
	place  int // of the key's field, from 1 on
}

func (r row) has(place int) bool { return 0 < place && place <= len(r.fields) }

// field is that at a place; no bytes, if there is none.
func (r row) field(place int) []byte {
	if !r.has(place) {
		return nil
	}
	return r.fields[place-1]
}

func (r row) key() []byte { return r.field(r.place) }

// others are its fields without the key's. They are copied, as a row may be told with many other ones.
func (r row) others() [][]byte {
	if !r.has(r.place) {
		return r.fields
	}
	l := make([][]byte, len(r.fields)-1)
	n := copy(l, r.fields[:r.place-1])
	copy(l[n:], r.fields[r.place:])
	return l
}

// rowsOf is what parts lines into fields: at each delimiter, or else, if there is none, at blanks.
func rowsOf(delimiter []byte, place int) func(line []byte) row {
	if len(delimiter) == 0 {
		return func(line []byte) row { return row{text.Fields(line), place} }
	}
	return func(line []byte) row { return row{bytes.Split(line, delimiter), place} }
}

// composer makes of a key, and of a row of each input, the parts of a line that is told.
type composer func(key []byte, rows [2]row) [][]byte

// composerOf is what the options ask for; false: they may not be.
func composerOf(opts []api.Opt) (composer, bool) {
	list, ok := opt.Last(opts, 'o')
	if !ok {
		return wholeLine, true
	}
	parts, ok := partsOf(list)
	filler, _ := opt.Last(opts, 'e')
	return listedParts(parts, []byte(filler)), ok
}

// wholeLine is all that there is, the key once.
func wholeLine(key []byte, rows [2]row) [][]byte {
	l := [][]byte{key}
	for _, r := range rows {
		l = append(l, r.others()...)
	}
	return l
}

// part is one of a list: a field of an input, by its place.
type part struct {
	input int // 1 or 2; 0: the key
	place int
}

func (p part) of(key []byte, rows [2]row) []byte {
	if p.input == 0 {
		return key
	}
	return rows[p.input-1].field(p.place)
}

// listedParts is just what a list asks for, with a filler for those that have no bytes.
func listedParts(list []part, filler []byte) composer {
	return func(key []byte, rows [2]row) [][]byte {
		l := make([][]byte, len(list))
		for i, p := range list {
			l[i] = p.of(key, rows)
			if len(l[i]) == 0 {
				l[i] = filler
			}
		}
		return l
	}
}

// partsOf reads a list; false: it may not be.
func partsOf(list string) ([]part, bool) {
	var l []part
	commas := strings.NewReplacer(" ", ",", "\t", ",").Replace(list)
	for s := range strings.SplitSeq(commas, ",") {
		p, ok := partOf(s)
		if !ok {
			return nil, false
		}
		l = append(l, p)
	}
	return l, true
}

// partOf reads a part of a list; false: it may not be.
func partOf(s string) (part, bool) {
	if s == "0" {
		return part{}, true
	}
	input, digits, _ := strings.Cut(s, ".")
	place, ok := text.Number(digits, api.MaxNum)
	i, isInput := inputOf(input)
	return part{i + 1, place}, ok && place > 0 && isInput
}

// inputOf is an input's place, from 0 on, by its number; false: there is no such one.
func inputOf(number string) (int, bool) {
	switch number {
	case "1":
		return 0, true
	case "2":
		return 1, true
	}
	return 0, false
}
