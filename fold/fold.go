// Package fold: letters: see doc/02-fold.md.
package fold

import (
	"slices"

	"thicket/api"
	"thicket/points"
)

// Orbit of a point: all points that are one letter with it, rising.
func Orbit(p int) ([]int, api.Errno) {
	if !points.Is(p) {
		return nil, api.ErrRange
	}
	orbit := []int{p}
	// What is paired with one that was found belongs to the orbit too, so the list grows while it is gone through.
	for i := 0; i < len(orbit); i++ {
		eachPartner(orbit[i], func(q int) {
			if !slices.Contains(orbit, q) {
				orbit = append(orbit, q)
			}
		})
	}
	slices.Sort(orbit)
	return orbit, api.OK
}

// Least of a point's orbit.
func Least(p int) (int, api.Errno) {
	orbit, err := Orbit(p)
	if err != api.OK {
		return 0, err
	}
	return orbit[0], api.OK
}

// Class by its name: its ranges, as a set.
func Class(name string) ([]api.Range, api.Errno) {
	var l []api.Range
	ok := eachRange(name, func(from, to int) {
		l = append(l, api.Range{From: from, To: to})
	})
	if !ok {
		return nil, api.ErrNone
	}
	return points.Join(l), api.OK
}

// In a class?
func In(name string, p int) (bool, api.Errno) {
	found := false
	ok := eachRange(name, func(from, to int) {
		found = found || from <= p && p <= to
	})
	if !ok {
		return false, api.ErrNone
	}
	if !points.Is(p) {
		return false, api.ErrRange
	}
	return found, api.OK
}
