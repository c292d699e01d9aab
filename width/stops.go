package width

import (
	"math"
	"slices"
	"strings"

	"toolchest/api"
	"toolchest/text"
)

// usualStops is the list where no option tells another one.
const usualStops = "8"

// Stops reads a list of tab stops; one number: stops at each multiple of it.
func Stops(s string) ([]int, bool) {
	var l []int
	last := 0
	parts := strings.NewReplacer(blank, ",", tab, ",").Replace(s)
	for part := range strings.SplitSeq(parts, ",") {
		n, ok := text.Number(part, api.MaxNum)
		if !ok || n <= last {
			return nil, false
		}
		l = append(l, n)
		last = n
	}
	return l, true
}

// Next is the stop behind a column; false: there is none.
func Next(l []int, col int) (int, bool) {
	if len(l) == 1 {
		return multipleAbove(l[0], col)
	}
	i := slices.IndexFunc(l, func(n int) bool { return n > col })
	if i < 0 {
		return 0, false
	}
	return l[i], true
}

// multipleAbove is the least multiple of n above a column; false: n has none, or none that is a number of Go's.
func multipleAbove(n, col int) (int, bool) {
	if n < 1 {
		return 0, false
	}
	over := col % n
	if over < 0 {
		over += n
	}
	if col > math.MaxInt-(n-over) {
		return 0, false
	}
	return col + (n - over), true
}

// stopping tells the stop behind a column; false: there is none.
type stopping func(col int) (int, bool)

// stoppingAt makes that of a list. Where it has several stops, they rise, and are not looked at one by one.
func stoppingAt(l []int) stopping {
	if len(l) == 1 {
		return func(col int) (int, bool) { return Next(l, col) }
	}
	return func(col int) (int, bool) {
		i, _ := slices.BinarySearch(l, col+1)
		if i == len(l) {
			return 0, false
		}
		return l[i], true
	}
}

// stopsOf is where the options let tabs stop; false: they may not be.
func stopsOf(opts []api.Opt) (stopping, bool) {
	l, ok := Stops(argumentOf(opts, 't', usualStops))
	return stoppingAt(l), ok
}
