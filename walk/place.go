package walk

import (
	"slices"

	"thicket/api"
	"thicket/fold"
)

// Looks tells whether it is so where one is, as a kind of node asks that looks at a place.
func (w *Walker) Looks(kind int) bool {
	switch kind {
	case api.NodeLineStart:
		return w.At == 0 || w.Points[w.At-1] == '\n'
	case api.NodeLineEnd:
		return w.At == len(w.Points) || w.Points[w.At] == '\n'
	case api.NodeTextStart:
		return w.At == 0
	case api.NodeTextEnd:
		return w.At == len(w.Points)
	}
	return w.isBetween() == (kind == api.NodeWord)
}

// isBetween a word's point and none?
func (w *Walker) isBetween() bool { return w.isWord(w.At-1) != w.isWord(w.At) }

func (w *Walker) isWord(place int) bool {
	if place < 0 || place >= len(w.Points) {
		return false
	}
	is, _ := fold.In("word", w.Points[place])
	return is
}

// TakeAgain the points that a group has, if they stand there; it tells whether they do.
func (w *Walker) TakeAgain(had api.Range, folded bool) bool {
	if had == Nothing() {
		return false
	}
	to := w.At + had.To - had.From
	l := w.letters(folded)
	if to > len(l) || !slices.Equal(l[had.From:had.To], l[w.At:to]) {
		return false
	}
	w.At = to
	return true
}

// letters of the text: its points, or, if great and small are one, the least of each one's orbit. Those are kept, as they may be asked for again and again.
func (w *Walker) letters(folded bool) []int {
	if !folded {
		return w.Points
	}
	if w.leasts == nil {
		for _, p := range w.Points {
			least, _ := fold.Least(p)
			w.leasts = append(w.leasts, least)
		}
	}
	return w.leasts
}
