package find

import (
	"slices"
	"strings"

	"thicket/api"
	"thicket/encode"
	"thicket/walk"
)

// writer of what becomes of a text, with the parts of a template.
type writer struct {
	strings.Builder
	text    string
	parts   []part
	tooLong bool
}

// add a text. Nothing is written any more where it would be too long, as that might be far more than memory has.
func (w *writer) add(s string) {
	w.tooLong = w.tooLong || w.Len()+len(s) > api.MaxText
	if !w.tooLong {
		w.WriteString(s)
	}
}

// expand the template for a match.
func (w *writer) expand(m api.Match) {
	for _, p := range w.parts {
		if p.isText {
			w.add(p.text)
		} else {
			w.add(had(w.text, m, p.group))
		}
	}
}

// had by a group of a match (0: the whole match): nothing, if it has none.
func had(text string, m api.Match, group int) string {
	if group == 0 {
		return text[m.From:m.To]
	}
	g := m.Groups[group-1]
	if g == walk.Nothing() {
		return ""
	}
	return text[g.From:g.To]
}

func (w *writer) whole() (string, api.Errno) {
	if w.tooLong {
		return "", api.ErrMany
	}
	return w.String(), api.OK
}

// mayBe tells whether a match may be one of a pattern in a text that was checked.
func mayBe(p api.Pattern, enc int, text string, m api.Match) bool {
	starts, _ := encode.Starts(enc, text)
	isPiece := func(from, to int) bool {
		_, begins := slices.BinarySearch(starts, from)
		_, ends := slices.BinarySearch(starts, to)
		return begins && ends && from <= to
	}
	if !isPiece(m.From, m.To) || len(m.Groups) != p.Groups {
		return false
	}
	for _, g := range m.Groups {
		if g != walk.Nothing() && !isPiece(g.From, g.To) {
			return false
		}
	}
	return true
}
