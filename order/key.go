package order

import (
	"strings"

	"toolchest/api"
	"toolchest/text"
)

// usualKey is the one where no option tells any.
const usualKey = "1"

// key is from one place of a line up to another one, whose byte is of it.
type key struct {
	from, to place
	compare  comparing
}

// place is a byte of a line, by its field and how far it stands from the field's beginning.
type place struct {
	field int   // from 1 on; 0: the line's end
	nth   int   // byte, from 1 on; 0: the field's last one
	flags flags // skipBlanks is of this place alone, all others are of the key
}

// keysOf are the keys of the options; false: one may not be.
func keysOf(l []api.Opt, all flags) ([]key, bool) {
	var keys []key
	for _, o := range l {
		if o.Letter != 'k' {
			continue
		}
		k, ok := keyOf(o.Arg, all)
		if !ok {
			return nil, false
		}
		keys = append(keys, k)
	}
	if len(keys) > 0 {
		return keys, true
	}
	k, ok := keyOf(usualKey, all)
	return []key{k}, ok
}

// keyOf reads a key; false: it may not be.
func keyOf(s string, all flags) (key, bool) {
	first, second, hasSecond := strings.Cut(s, ",")
	from, ok := placeOf(first, 1)
	if !ok {
		return key{}, false
	}
	to := place{}
	if hasSecond {
		to, ok = placeOf(second, 0)
		if !ok {
			return key{}, false
		}
	}
	if from.flags|to.flags == 0 {
		from.flags, to.flags = all, all
	}
	return key{from, to, (from.flags | to.flags).comparing()}, true
}

// placeOf reads a place; least is the least byte that may be, and the one that is meant where none is told.
func placeOf(s string, least int) (place, bool) {
	numbers := strings.TrimRight(s, flagLetters)
	p := place{nth: least}
	for _, letter := range []byte(s[len(numbers):]) {
		p.flags |= flagOf(letter)
	}
	field, nth, hasByte := strings.Cut(numbers, ".")
	ok := false
	if p.field, ok = numberFrom(1, field); !ok {
		return place{}, false
	}
	if hasByte {
		if p.nth, ok = numberFrom(least, nth); !ok {
			return place{}, false
		}
	}
	return p, true
}

// numberFrom reads a number that is at least so great.
func numberFrom(least int, s string) (int, bool) {
	n, ok := text.Number(s, api.MaxNum)
	return n, ok && n >= least
}

// bytesOf are a line's bytes that are of the key.
func (k key) bytesOf(line []byte, fields parting) []byte {
	begin, end := k.from.begin(line, fields), k.to.end(line, fields)
	return line[min(begin, end):end]
}

// begin is where a key begins whose first place this is.
func (p place) begin(line []byte, fields parting) int {
	begin, end, ok := fields.field(line, p.field)
	if !ok {
		return len(line)
	}
	return within(line, p.origin(line, begin, end), p.nth-1)
}

// end is where a key ends whose second place this is.
func (p place) end(line []byte, fields parting) int {
	if p.field == 0 {
		return len(line)
	}
	begin, end, ok := fields.field(line, p.field)
	switch {
	case !ok:
		return len(line)
	case p.nth == 0:
		return end
	}
	return within(line, p.origin(line, begin, end), p.nth)
}

// origin is from where on the bytes of a field are counted.
func (p place) origin(line []byte, begin, end int) int {
	if !p.flags.has(skipBlanks) {
		return begin
	}
	return end - len(dropWhile(line[begin:end], isBlank))
}

// within goes on from a byte, but not behind the line's end. The lesser way is taken ahead of the sum, which might wrap round.
func within(line []byte, from, way int) int { return from + min(way, len(line)-from) }
