package find

import (
	"thicket/api"
	"thicket/facts"
	"thicket/seek"
	"thicket/walk"
)

// finder of matches: a matcher, and the fuel of all places together.
type finder struct {
	*seek.Matcher
	fuel, burnt int
}

// newFinder that is at a byte of a text.
func newFinder(p api.Pattern, enc int, text string, at, fuel int) (*finder, api.Errno) {
	if err := facts.Check(p); err != api.OK {
		return nil, err
	}
	w, err := walk.Begin(enc, text, at, fuel)
	if err != api.OK {
		return nil, err
	}
	return &finder{Matcher: seek.New(p, w), fuel: fuel}, api.OK
}

// from a place on: the match at the first one at which there is one; one is at its end then.
func (f *finder) from(place int) (api.Match, bool, api.Errno) {
	for ; place <= len(f.Points); place++ {
		m, ok, burnt, err := f.MatchAt(place, f.fuel-f.burnt)
		if err != api.OK {
			return api.Match{}, false, err
		}
		f.burnt += burnt
		if ok {
			return m, true, api.OK
		}
	}
	return api.Match{}, false, api.OK
}

// each match, one behind the other, from where one is on, is handed to take.
func (f *finder) each(take func(m api.Match)) api.Errno {
	for place := f.At; ; {
		m, ok, err := f.from(place)
		if err != api.OK || !ok {
			return err
		}
		take(m)
		place = f.At
		if m.From == m.To {
			place++
		}
	}
}

// eachMatch of a text is handed to take; how much fuel was burnt is told. What was taken ahead of an error is worth nothing.
func eachMatch(p api.Pattern, enc int, text string, fuel int, take func(m api.Match)) (int, api.Errno) {
	f, err := newFinder(p, enc, text, 0, fuel)
	if err != api.OK {
		return 0, err
	}
	if err := f.each(take); err != api.OK {
		return 0, err
	}
	return f.burnt, api.OK
}
