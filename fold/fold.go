// Package fold: letters: see doc/02-fold.md.
package fold

import (
	"slices"

	"thicket/api"
)

// Orbit of a point: all points that are one letter with it, rising.
func Orbit(p int) ([]int, api.Errno) {
	if !isPoint(p) {
		return nil, api.ErrRange
	}
	points := []int{p}
	// What is paired with one that was found belongs to the orbit too, so the list grows while it is gone through.
	for i := 0; i < len(points); i++ {
		eachPartner(points[i], func(q int) {
			if !slices.Contains(points, q) {
				points = append(points, q)
			}
		})
	}
	slices.Sort(points)
	return points, api.OK
}

// Least of a point's orbit.
func Least(p int) (int, api.Errno) {
	points, err := Orbit(p)
	if err != api.OK {
		return 0, err
	}
	return points[0], api.OK
}

// Class by its name: its ranges, as a set.
func Class(name string) ([]api.Range, api.Errno) {
	var l []api.Range
	ok := eachRange(name, func(from, to int) {
		l = append(l, api.Range{From: from, To: to})
	})
	if !ok {
		return nil, api.ErrNone
	}
	return joined(l), api.OK
}

// In a class?
func In(name string, p int) (bool, api.Errno) {
	found := false
	ok := eachRange(name, func(from, to int) {
		found = found || from <= p && p <= to
	})
	if !ok {
		return false, api.ErrNone
	}
	if !isPoint(p) {
		return false, api.ErrRange
	}
	return found, api.OK
}

func isPoint(p int) bool { return p >= 0 && p <= api.MaxPoint }

// joined sorts ranges, and makes one of those that touch or overlap. (It stands here, as package set leans on this one.)
func joined(l []api.Range) []api.Range {
	slices.SortFunc(l, func(a, b api.Range) int { return a.From - b.From })
	var out []api.Range
	for _, r := range l {
		if last := len(out) - 1; last >= 0 && r.From <= out[last].To+1 {
			out[last].To = max(out[last].To, r.To)
		} else {
			out = append(out, r)
		}
	}
	return out
}
