package match

import (
	"slices"

	"thicket/api"
)

// step of a search: it tells what is to be done next (nil: nothing is left). It does not do that itself, so that a long search is not a deep one.
type step func() step

// matcher of a text: where one is, what groups have (places are counted in points), and what is left to be tried.
type matcher struct {
	points  []int
	leasts  []int // those of the points' orbits, once they were asked for
	fuel    int
	burnt   int
	at      int
	groups  []api.Range
	changes []change
	backs   []back
}

// change of a group: which one, and what it had before.
type change struct {
	group int
	had   api.Range
}

// back is what is to be done where nothing came of what was tried first: where one was, and how many changes there were then.
type back struct {
	next    step
	at      int
	changes int
}

// nothing is what a group has at first.
func nothing() api.Range { return api.Range{From: -1, To: -1} }

func newMatcher(points []int, at, groups, fuel int) *matcher {
	return &matcher{points: points, at: at, fuel: fuel, groups: slices.Repeat([]api.Range{nothing()}, groups)}
}

// search for the first way of a tree. Whoever has no fuel left gives up by a panic with its error, which ends here.
func (m *matcher) search(tree api.Node) (found bool, err api.Errno) {
	defer func() {
		if gone := recover(); gone != nil {
			found, err = false, gone.(api.Errno)
		}
	}()
	next := m.waysOf(tree)(func() step {
		found = true
		return nil
	})
	for next != nil {
		next = next()
	}
	return found, api.OK
}

func (m *matcher) burn() {
	if m.burnt == m.fuel {
		panic(api.ErrFuel)
	}
	m.burnt++
}

// set what a group has: from a place to where one is.
func (m *matcher) set(group, from int) {
	m.changes = append(m.changes, change{group: group, had: m.groups[group]})
	m.groups[group] = api.Range{From: from, To: m.at}
}

// lay what is to be done, all being as it is now, if nothing comes of what is done next.
func (m *matcher) lay(next step) {
	m.backs = append(m.backs, back{next: next, at: m.at, changes: len(m.changes)})
}

// cut off what was laid since there were so many.
func (m *matcher) cut(backs int) { m.backs = m.backs[:backs] }

// fail: all is as it was when the last one was laid, and that is to be done next.
func (m *matcher) fail() step {
	last := len(m.backs) - 1
	if last < 0 {
		return nil
	}
	b := m.backs[last]
	m.cut(last)
	for i := len(m.changes) - 1; i >= b.changes; i-- {
		m.groups[m.changes[i].group] = m.changes[i].had
	}
	m.changes = m.changes[:b.changes]
	m.at = b.at
	return b.next
}
