package match

import (
	"thicket/api"
	"thicket/set"
	"thicket/tree"
)

// ways of a node: they are looked for from where one is, and at the end of each what follows is the next step.
type ways func(follow step) step

// waysOf a node that was checked; each time when they are begun fuel is burnt.
func (m *matcher) waysOf(n api.Node) ways {
	begin := m.waysByKind(n)
	return func(follow step) step {
		m.burn()
		return begin(follow)
	}
}

func (m *matcher) waysByKind(n api.Node) ways {
	var kids []ways
	for _, kid := range n.Kids {
		kids = append(kids, m.waysOf(kid))
	}
	switch n.Kind {
	case api.NodeEmpty:
		return func(follow step) step { return follow }
	case api.NodeSet:
		return m.ifSo(func() bool { return m.take(n.Set) })
	case api.NodeAgain:
		return m.ifSo(func() bool { return m.takeAgain(n.Number-1, n.Fold) })
	case api.NodeRow:
		return func(follow step) step { return row(kids, follow) }
	case api.NodeEither:
		return func(follow step) step { return m.either(kids, follow) }
	case api.NodeGroup:
		return m.group(n.Number-1, kids[0])
	case api.NodeRepeat:
		return m.repeat(n, kids[0])
	case api.NodeAtomic:
		return m.first(kids[0])
	case api.NodeAhead:
		return m.first(m.ahead(kids[0]))
	case api.NodeNotAhead:
		return m.none(kids[0])
	case api.NodeBehind:
		return m.first(m.behind(kids[0], tree.Facts(n.Kids[0])))
	case api.NodeNotBehind:
		return m.none(m.behind(kids[0], tree.Facts(n.Kids[0])))
	}
	return m.ifSo(func() bool { return m.looks(n.Kind) })
}

// ifSo is one way, if something holds.
func (m *matcher) ifSo(holds func() bool) ways {
	return func(follow step) step {
		if !holds() {
			return m.fail()
		}
		return follow
	}
}

// take a point of a set, if one stands there; it tells whether it does.
func (m *matcher) take(a []api.Range) bool {
	if m.at == len(m.points) {
		return false
	}
	has, _ := set.Has(a, m.points[m.at])
	if has {
		m.at++
	}
	return has
}

func row(kids []ways, follow step) step {
	if len(kids) == 0 {
		return follow
	}
	return kids[0](func() step { return row(kids[1:], follow) })
}

func (m *matcher) either(kids []ways, follow step) step {
	if len(kids) > 1 {
		m.lay(func() step { return m.either(kids[1:], follow) })
	}
	return kids[0](follow)
}

func (m *matcher) group(group int, kid ways) ways {
	return func(follow step) step {
		from := m.at
		return kid(func() step {
			m.set(group, from)
			return follow
		})
	}
}

// first of some ways alone.
func (m *matcher) first(some ways) ways {
	return func(follow step) step {
		backs := len(m.backs)
		return some(func() step {
			m.cut(backs)
			return follow
		})
	}
}

// none of some ways: one, as it is, if there is none of those.
func (m *matcher) none(some ways) ways {
	return func(follow step) step {
		backs := len(m.backs)
		m.lay(follow)
		return some(func() step {
			m.cut(backs)
			return m.fail()
		})
	}
}

// ahead: what groups have at the end of the Kid's ways, where one was at their beginning.
func (m *matcher) ahead(kid ways) ways {
	return func(follow step) step {
		here := m.at
		return kid(func() step {
			m.at = here
			return follow
		})
	}
}
