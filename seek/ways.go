package seek

import (
	"thicket/api"
	"thicket/tree"
)

// ways of a node: they are looked for from where one is, and at the end of each what follows is the next step.
type ways func(follow step) step

// waysOf a node that was checked; each time when they are begun fuel is burnt.
func (m *Matcher) waysOf(n api.Node) ways {
	begin := m.waysByKind(n)
	return func(follow step) step {
		m.burn()
		return begin(follow)
	}
}

func (m *Matcher) waysByKind(n api.Node) ways {
	var kids []ways
	for _, kid := range n.Kids {
		kids = append(kids, m.waysOf(kid))
	}
	switch n.Kind {
	case api.NodeEmpty:
		return func(follow step) step { return follow }
	case api.NodeSet:
		return m.ifSo(func() bool { return m.Take(n.Set) })
	case api.NodeAgain:
		return m.ifSo(func() bool { return m.TakeAgain(m.groups[n.Number-1], n.Fold) })
	case api.NodeRow:
		return func(follow step) step { return row(kids, follow) }
	case api.NodeEither:
		return func(follow step) step { return m.either(kids, follow) }
	case api.NodeGroup:
		return m.group(n.Number-1, kids[0])
	case api.NodeRepeat:
		return m.repeat(n, kids[0])
	case api.NodeAtomic:
		return m.first(kids[0])
	case api.NodeAhead:
		return m.first(m.ahead(kids[0]))
	case api.NodeNotAhead:
		return m.none(kids[0])
	case api.NodeBehind:
		return m.first(m.behind(kids[0], tree.Facts(n.Kids[0])))
	case api.NodeNotBehind:
		return m.none(m.behind(kids[0], tree.Facts(n.Kids[0])))
	}
	return m.ifSo(func() bool { return m.Looks(n.Kind) })
}

// ifSo is one way, if something holds.
func (m *Matcher) ifSo(holds func() bool) ways {
	return func(follow step) step {
		if !holds() {
			return m.fail()
		}
		return follow
	}
}

func row(kids []ways, follow step) step {
	if len(kids) == 0 {
		return follow
	}
	return kids[0](func() step { return row(kids[1:], follow) })
}

func (m *Matcher) either(kids []ways, follow step) step {
	if len(kids) > 1 {
		m.lay(func() step { return m.either(kids[1:], follow) })
	}
	return kids[0](follow)
}

func (m *Matcher) group(group int, kid ways) ways {
	return func(follow step) step {
		from := m.At
		return kid(func() step {
			m.set(group, from)
			return follow
		})
	}
}

// first of some ways alone.
func (m *Matcher) first(some ways) ways {
	return func(follow step) step {
		backs := len(m.backs)
		return some(func() step {
			m.cut(backs)
			return follow
		})
	}
}

// none of some ways: one, as it is, if there is none of those.
func (m *Matcher) none(some ways) ways {
	return func(follow step) step {
		backs := len(m.backs)
		m.lay(follow)
		return some(func() step {
			m.cut(backs)
			return m.fail()
		})
	}
}

// ahead: what groups have at the end of the Kid's ways, where one was at their beginning.
func (m *Matcher) ahead(kid ways) ways {
	return func(follow step) step {
		here := m.At
		return kid(func() step {
			m.At = here
			return follow
		})
	}
}
