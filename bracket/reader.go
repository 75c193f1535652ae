package bracket

import (
	"thicket/api"
	"thicket/points"
	"thicket/set"
)

// reader of one expression, with all that are within it.
type reader struct {
	points.Cursor
	dialect int
	folded  bool
}

func (r *reader) isRuby() bool { return r.dialect == api.DialectRuby }

// giveUp for what is wrong at a point.
func giveUp(err api.Errno, at int) { panic(api.Fault{Err: err, At: at}) }

// made is what a call of package set made. All it can find wrong are too many ranges, of which only the whole set may be told: MaxPattern points are too few for a part of it to have so many.
func made(a []api.Range, err api.Errno) []api.Range {
	if err != api.OK {
		giveUp(err, 0)
	}
	return a
}

// expression that begins here, and is within so many others; it goes past its `]`.
func (r *reader) expression(deep int) []api.Range {
	turned := r.Skip('^')
	first := r.At
	out := r.part(first, deep)
	for r.isRuby() && r.Skip('&', '&') {
		out = made(set.Meet(out, r.part(first, deep)))
	}
	r.Skip(']')
	if turned {
		out = made(set.Not(out))
	}
	return out
}

// part of an expression whose items begin at first: all of its own items. Each part is folded by itself: `a` and `A` have nothing in common before.
func (r *reader) part(first, deep int) []api.Range {
	begin := r.At
	var items []api.Range
	for !r.isPartEnd(first) {
		items = append(items, r.item(deep)...)
	}
	if r.At == begin {
		giveUp(api.ErrForm, r.At)
	}
	out := points.Join(items)
	if r.folded {
		out = made(set.Fold(out))
	}
	return out
}

// isPartEnd tells whether a part ends here: at a `]` that does not come first in the expression, or at a `&&`.
func (r *reader) isPartEnd(first int) bool {
	return r.At != first && r.Is(']') || r.isAnd()
}

func (r *reader) isAnd() bool { return r.isRuby() && r.Is('&', '&') }
