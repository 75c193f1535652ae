package bracket

import (
	"thicket/api"
	"thicket/fold"
	"thicket/set"
	"thicket/token"
)

// item that begins here.
func (r *reader) item(deep int) []api.Range {
	if r.isClass() {
		return r.class()
	}
	if r.isWithin() {
		return r.within(deep)
	}
	at := r.At
	t := r.word()
	if t.Kind == api.TokenClass {
		return pointsOf(t.Text, t.Not, at)
	}
	to := t.Number
	if r.isRange() {
		r.Skip('-')
		to = r.rangeEnd(t.Number)
	}
	return []api.Range{{From: t.Number, To: to}}
}

func (r *reader) isClass() bool { return r.Is('[', ':') }

func (r *reader) isWithin() bool { return r.isRuby() && r.Is('[') && !r.isClass() }

// isRange tells whether a range goes on behind a point: a `-` ahead of the `]` is a point of its own.
func (r *reader) isRange() bool { return r.Is('-') && !r.Is('-', ']') }

// within is another expression in this one.
func (r *reader) within(deep int) []api.Range {
	if deep == api.MaxDeep {
		giveUp(api.ErrMany, r.At)
	}
	r.Skip('[')
	return r.expression(deep + 1)
}

// word is a point, or a class that a `\` means.
func (r *reader) word() api.Token {
	if r.Ended() {
		giveUp(api.ErrForm, r.At)
	}
	if !r.isRuby() || !r.Is('\\') {
		p := r.Pattern[r.At]
		r.At++
		return api.Token{Kind: api.TokenPoint, Number: p}
	}
	t, next, err := token.Next(r.dialect, r.Pattern, r.At)
	if err != api.OK {
		giveUp(err, r.At)
	}
	if t.Kind != api.TokenPoint && t.Kind != api.TokenClass {
		giveUp(api.ErrForm, r.At)
	}
	r.At = next
	return t
}

// rangeEnd is the second point of a range, behind its `-`.
func (r *reader) rangeEnd(from int) int {
	at := r.At
	if r.isClass() || r.isWithin() || r.isAnd() {
		giveUp(api.ErrForm, at)
	}
	t := r.word()
	if t.Kind != api.TokenPoint {
		giveUp(api.ErrForm, at)
	}
	if t.Number < from {
		giveUp(api.ErrRange, at)
	}
	return t.Number
}

// class is what a `[:` begins.
func (r *reader) class() []api.Range {
	at := r.At
	r.Skip('[', ':')
	not := r.isRuby() && r.Skip('^')
	name := r.letters()
	if name == "" || !r.Skip(':', ']') {
		giveUp(api.ErrForm, r.At)
	}
	return pointsOf(name, not, at)
}

// letters are the small ones that come next.
func (r *reader) letters() string {
	var text []byte
	for !r.Ended() && r.Pattern[r.At] >= 'a' && r.Pattern[r.At] <= 'z' {
		text = append(text, byte(r.Pattern[r.At]))
		r.At++
	}
	return string(text)
}

// pointsOf a class that begins at a point of the pattern, or all but those.
func pointsOf(name string, not bool, at int) []api.Range {
	out, err := fold.Class(name)
	if err != api.OK {
		giveUp(err, at)
	}
	if not {
		return made(set.Not(out))
	}
	return out
}
