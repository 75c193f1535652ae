// Package seek: looking for the first way of a pattern at places of a text, for layers that look at one place, or at many.
package seek

import (
	"thicket/api"
	"thicket/walk"
)

// step of a search: it tells what is to be done next (nil: nothing is left). It does not do that itself, so that a long search is not a deep one.
type step func() step

// Matcher of a pattern in a text: where one is, what groups have (by places), and what is left to be tried.
type Matcher struct {
	walk.Walker
	tree    ways
	count   int // of groups
	fuel    int
	burnt   int
	groups  []api.Range
	changes []change
	backs   []back
}

// change of a group: which one, and what it had before.
type change struct {
	group int
	had   api.Range
}

// back is what is to be done where nothing came of what was tried first: where one was, and how many changes there were then.
type back struct {
	next    step
	at      int
	changes int
}

// New matcher of a pattern that was checked.
func New(p api.Pattern, w walk.Walker) *Matcher {
	m := &Matcher{Walker: w, count: p.Groups}
	m.tree = m.waysOf(p.Tree)
	return m
}

// MatchAt a place: the match, if there is one (one is at its end then), and how much fuel was burnt.
func (m *Matcher) MatchAt(place, fuel int) (api.Match, bool, int, api.Errno) {
	m.BeginAt(place)
	m.fuel, m.burnt = fuel, 0
	m.groups = walk.NoGroups(m.count)
	m.changes, m.backs = m.changes[:0], m.backs[:0]
	found, err := m.search()
	if err != api.OK {
		return api.Match{}, false, 0, err
	}
	if !found {
		return api.Match{}, false, m.burnt, api.OK
	}
	return m.Match(m.groups), true, m.burnt, api.OK
}

// search for the first way of the tree. Whoever has no fuel left gives up by a panic with its error, which ends here.
func (m *Matcher) search() (found bool, err api.Errno) {
	defer func() {
		if gone := recover(); gone != nil {
			found, err = false, gone.(api.Errno)
		}
	}()
	next := m.tree(func() step {
		found = true
		return nil
	})
	for next != nil {
		next = next()
	}
	return found, api.OK
}

func (m *Matcher) burn() {
	if m.burnt == m.fuel {
		panic(api.ErrFuel)
	}
	m.burnt++
}

// set what a group has: from a place to where one is.
func (m *Matcher) set(group, from int) {
	m.changes = append(m.changes, change{group: group, had: m.groups[group]})
	m.groups[group] = api.Range{From: from, To: m.At}
}

// lay what is to be done, all being as it is now, if nothing comes of what is done next.
func (m *Matcher) lay(next step) {
	m.backs = append(m.backs, back{next: next, at: m.At, changes: len(m.changes)})
}

// cut off what was laid since there were so many.
func (m *Matcher) cut(backs int) { m.backs = m.backs[:backs] }

// fail: all is as it was when the last one was laid, and that is to be done next.
func (m *Matcher) fail() step {
	last := len(m.backs) - 1
	if last < 0 {
		return nil
	}
	b := m.backs[last]
	m.cut(last)
	for i := len(m.changes) - 1; i >= b.changes; i-- {
		m.groups[m.changes[i].group] = m.changes[i].had
	}
	m.changes = m.changes[:b.changes]
	m.At = b.at
	return b.next
}
