// Package points: what layers need of points, their ranges and patterns that may not call each other.
package points

import (
	"slices"

	"thicket/api"
)

// Is a number a point?
func Is(p int) bool { return p >= 0 && p <= api.MaxPoint }

// Join sorts ranges of points, and makes one of those that touch or overlap: they come out as a set. The list that is handed in is sorted too.
func Join(l []api.Range) []api.Range {
	slices.SortFunc(l, func(a, b api.Range) int { return a.From - b.From })
	var out []api.Range
	for _, r := range l {
		out = Add(out, r)
	}
	return out
}

// Add to a set a range that begins no earlier than its last one: to that one itself, if they touch or overlap.
func Add(l []api.Range, r api.Range) []api.Range {
	last := len(l) - 1
	if last < 0 || r.From > l[last].To+1 {
		return append(l, r)
	}
	l[last].To = max(l[last].To, r.To)
	return l
}
