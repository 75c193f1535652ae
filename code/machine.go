package code

import (
	"thicket/api"
	"thicket/walk"
)

// maxBacks is how many ways back there may be.
const maxBacks = 100000

// machine that does a program's operations while it goes along a text.
type machine struct {
	walk.Walker
	api.Program
	next     int // the operation that is done next
	groups   kept[api.Range]
	counters kept[count]
	backs    []back
}

// count is what a counter knows.
type count struct{ number, place, ways int }

// back is a way back: an operation, and what is needed to know again what was known then.
type back struct {
	next, at       int
	groups, counts int // how many changes there were
}

func newMachine(p api.Program, w walk.Walker) *machine {
	return &machine{
		Walker: w, Program: p,
		groups:   kept[api.Range]{now: walk.NoGroups(p.Groups)},
		counters: kept[count]{now: make([]count, p.Counters)},
	}
}

// run up to a match, or up to where no way back is left.
func (m *machine) run(fuel int) (matches bool, burnt int, err api.Errno) {
	for burnt < fuel {
		op := m.Ops[m.next]
		m.next++
		burnt++
		if op.Do == api.OpMatch {
			return true, burnt, api.OK
		}
		if !m.do(op) && !m.goBack() {
			return false, burnt, api.OK
		}
		if len(m.backs) > maxBacks {
			return false, 0, api.ErrMany
		}
	}
	return false, 0, api.ErrFuel
}

// do an operation, but for OpMatch; it tells whether it did not fail.
func (m *machine) do(op api.Op) bool {
	switch op.Do {
	case api.OpSet:
		return m.Take(op.Set)
	case api.OpJump:
		m.next = op.To
	case api.OpSplit:
		m.lay(op.Other)
		m.next = op.To
	case api.OpSave:
		m.save(op)
	case api.OpLook:
		return m.Looks(op.Kind)
	case api.OpAgain:
		return m.TakeAgain(m.groups.now[op.To-1], op.Fold)
	case api.OpMark, api.OpCount, api.OpMore:
		m.change(op)
	case api.OpCut:
		m.cut(op)
	case api.OpUnder:
		m.jumpIf(m.counters.now[op.To].number < op.Least, op.Other)
	case api.OpMoved:
		m.jumpIf(m.counters.now[op.To].place == m.At, op.Other)
	case api.OpBack:
		return m.stepBack(m.counters.now[op.To])
	case api.OpFail:
		return false
	}
	return true
}

func (m *machine) jumpIf(holds bool, to int) {
	if holds {
		m.next = to
	}
}

// save what a group has.
func (m *machine) save(op api.Op) {
	had := api.Range{From: m.counters.now[op.Other].place, To: m.At}
	if had.To < had.From {
		had = walk.Nothing()
	}
	m.groups.put(op.To-1, had)
}

// change a counter.
func (m *machine) change(op api.Op) {
	c := m.counters.now[op.To]
	switch op.Do {
	case api.OpMark:
		c.place, c.ways = m.At, len(m.backs)
	case api.OpCount:
		c.number = op.Least
	case api.OpMore:
		c.number = min(c.number+1, maxNumber)
		m.jumpIf(c.number < op.Least, op.Other)
	}
	m.counters.put(op.To, c)
}

// stepBack from a counter's place, as many points as its number is; it tells whether there are as many.
func (m *machine) stepBack(c count) bool {
	if c.number > c.place {
		return false
	}
	m.At = c.place - c.number
	return true
}

// lay a way back.
func (m *machine) lay(next int) {
	m.backs = append(m.backs, back{next: next, at: m.At, groups: len(m.groups.changes), counts: len(m.counters.changes)})
}

// cut off the ways back that came last.
func (m *machine) cut(op api.Op) {
	c := m.counters.now[op.To]
	m.backs = m.backs[:min(c.ways, len(m.backs))]
	if op.Back {
		m.At = c.place
	}
}

// goBack by the last way, which is gone then; it tells whether there is one.
func (m *machine) goBack() bool {
	last := len(m.backs) - 1
	if last < 0 {
		return false
	}
	b := m.backs[last]
	m.backs = m.backs[:last]
	m.next, m.At = b.next, b.at
	m.groups.undo(b.groups)
	m.counters.undo(b.counts)
	return true
}
