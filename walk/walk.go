// Package walk: going along the points of a text, for layers that may not call each other.
package walk

import (
	"slices"

	"thicket/api"
	"thicket/encode"
	"thicket/set"
)

// Walker is somewhere in a text; places are counted in points.
type Walker struct {
	Points []int
	At     int
	from   int   // where it began
	starts []int // the bytes at which places are
	leasts []int // those of the points' orbits, once they were asked for
}

// Begin at a byte of a text. Fuel is only looked at: whoever goes along a text tells what is wrong with both in one order.
func Begin(enc int, text string, at, fuel int) (Walker, api.Errno) {
	points, fault := encode.Decode(enc, text)
	if fault.Err != api.OK {
		return Walker{}, fault.Err
	}
	starts, _ := encode.Starts(enc, text)
	place, ok := slices.BinarySearch(starts, at)
	if !ok || fuel < 0 || fuel > api.MaxFuel {
		return Walker{}, api.ErrRange
	}
	w := Walker{Points: points, starts: starts}
	w.BeginAt(place)
	return w, api.OK
}

// BeginAt a place of the same text.
func (w *Walker) BeginAt(place int) { w.At, w.from = place, place }

// Nothing is what a group has at first.
func Nothing() api.Range { return api.Range{From: -1, To: -1} }

// NoGroups is what so many groups have at first.
func NoGroups(count int) []api.Range { return slices.Repeat([]api.Range{Nothing()}, count) }

// Match from where one began to where one is, told in bytes; what groups have is handed in by places.
func (w *Walker) Match(groups []api.Range) api.Match {
	found := api.Match{From: w.starts[w.from], To: w.starts[w.At]}
	for _, g := range groups {
		if g != Nothing() {
			g = api.Range{From: w.starts[g.From], To: w.starts[g.To]}
		}
		found.Groups = append(found.Groups, g)
	}
	return found
}

// Take a point of a set, if one stands there; it tells whether it does.
func (w *Walker) Take(a []api.Range) bool {
	if w.At == len(w.Points) {
		return false
	}
	has, _ := set.Has(a, w.Points[w.At])
	if has {
		w.At++
	}
	return has
}
