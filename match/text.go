package match

import (
	"slices"

	"thicket/api"
	"thicket/fold"
)

// looks tells whether it is so where one is, as a kind of node asks that looks at a place.
func (m *matcher) looks(kind int) bool {
	switch kind {
	case api.NodeLineStart:
		return m.at == 0 || m.points[m.at-1] == '\n'
	case api.NodeLineEnd:
		return m.at == len(m.points) || m.points[m.at] == '\n'
	case api.NodeTextStart:
		return m.at == 0
	case api.NodeTextEnd:
		return m.at == len(m.points)
	}
	return m.isBetween() == (kind == api.NodeWord)
}

// isBetween a word's point and none?
func (m *matcher) isBetween() bool { return m.isWord(m.at-1) != m.isWord(m.at) }

func (m *matcher) isWord(place int) bool {
	if place < 0 || place >= len(m.points) {
		return false
	}
	is, _ := fold.In("word", m.points[place])
	return is
}

// takeAgain the points that a group has, if they stand there; it tells whether they do.
func (m *matcher) takeAgain(group int, folded bool) bool {
	had := m.groups[group]
	if had == nothing() {
		return false
	}
	to := m.at + had.To - had.From
	l := m.letters(folded)
	if to > len(l) || !slices.Equal(l[had.From:had.To], l[m.at:to]) {
		return false
	}
	m.at = to
	return true
}

// letters of the text: its points, or, if great and small are one, the least of each one's orbit. Those are kept, as a search may ask for them again and again.
func (m *matcher) letters(folded bool) []int {
	if !folded {
		return m.points
	}
	if m.leasts == nil {
		for _, p := range m.points {
			least, _ := fold.Least(p)
			m.leasts = append(m.leasts, least)
		}
	}
	return m.leasts
}
