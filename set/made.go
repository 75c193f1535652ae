package set

import (
	"sort"

	"thicket/api"
	"thicket/fold"
	"thicket/points"
)

// made is what a function makes of sets, if all of them are right, and it is not too many ranges.
func made(do func() []api.Range, sets ...[]api.Range) ([]api.Range, api.Errno) {
	for _, a := range sets {
		if err := Check(a); err != api.OK {
			return nil, err
		}
	}
	out := do()
	if len(out) > api.MaxRanges {
		return nil, api.ErrMany
	}
	return out, api.OK
}

func checkRanges(l []api.Range) api.Errno {
	if len(l) > api.MaxRanges {
		return api.ErrMany
	}
	for _, r := range l {
		if !points.Is(r.From) || !points.Is(r.To) || r.From > r.To {
			return api.ErrRange
		}
	}
	return api.OK
}

// kept is the set of all points that keep says yes of, told whether they are in a, and in b.
func kept(a, b []api.Range, keep func(inA, inB bool) bool) []api.Range {
	var out []api.Range
	for p := 0; p <= api.MaxPoint; {
		inA, lastA := stretch(a, p)
		inB, lastB := stretch(b, p)
		last := min(lastA, lastB)
		if keep(inA, inB) {
			out = points.Add(out, api.Range{From: p, To: last})
		}
		p = last + 1
	}
	return out
}

// stretch tells whether a point is in a set, and up to which point that stays so.
func stretch(a []api.Range, p int) (bool, int) {
	i := sort.Search(len(a), func(i int) bool { return a[i].To >= p })
	if i == len(a) {
		return false, api.MaxPoint
	}
	if p < a[i].From {
		return false, a[i].From - 1
	}
	return true, a[i].To
}

// eachLetter hands on those points of a set that may not be alone in their orbits: all such points are in this one class, and going through all others would take long.
func eachLetter(a []api.Range, take func(p int)) {
	letters, _ := fold.Class("alpha")
	for _, r := range kept(a, letters, func(inA, inB bool) bool { return inA && inB }) {
		for p := r.From; p <= r.To; p++ {
			take(p)
		}
	}
}
