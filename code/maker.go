package code

import (
	"slices"

	"thicket/api"
	"thicket/tree"
)

// maker of a program. While it makes it, operations speak of labels where they will speak of operations.
type maker struct {
	api.Program
	labels []int // the operations at which they stand
}

// made of a pattern that was checked. No node has more than 12 operations and 2 counters of its own, and one that has no Kids has one at most: so a program is never too great.
func made(p api.Pattern) api.Program {
	m := &maker{Program: api.Program{Groups: p.Groups}}
	m.node(p.Tree)
	m.add(api.Op{Do: api.OpMatch})
	m.settle()
	return m.Program
}

func (m *maker) add(op api.Op) { m.Ops = append(m.Ops, op) }

// newCounter that no other node has: what it knows must last as long as the node's Kid is done.
func (m *maker) newCounter() int {
	m.Counters++
	return m.Counters - 1
}

// newLabel: where it stands is told later.
func (m *maker) newLabel() int {
	m.labels = append(m.labels, 0)
	return len(m.labels) - 1
}

// stand a label at the operation that is added next.
func (m *maker) stand(label int) { m.labels[label] = len(m.Ops) }

// settle labels: all that speaks of them speaks of operations from now on.
func (m *maker) settle() {
	byDo := fieldsByDo()
	for i := range m.Ops {
		op := &m.Ops[i]
		if byDo[op.Do].to == operation {
			op.To = m.labels[op.To]
		}
		if byDo[op.Do].other == operation {
			op.Other = m.labels[op.Other]
		}
	}
}

// node: where its operations are done, ways back are laid so that they come in the order of its ways.
func (m *maker) node(n api.Node) {
	switch n.Kind {
	case api.NodeEmpty:
	case api.NodeSet:
		m.add(api.Op{Do: api.OpSet, Set: slices.Clone(n.Set)})
	case api.NodeRow:
		for _, kid := range n.Kids {
			m.node(kid)
		}
	case api.NodeEither:
		m.either(n.Kids)
	case api.NodeGroup:
		m.group(n)
	case api.NodeRepeat:
		m.repeat(n)
	case api.NodeAtomic:
		m.first(false, func() { m.node(n.Kids[0]) })
	case api.NodeAhead:
		m.first(true, func() { m.node(n.Kids[0]) })
	case api.NodeNotAhead:
		m.none(func() { m.node(n.Kids[0]) })
	case api.NodeBehind:
		m.first(false, func() { m.behind(n.Kids[0]) })
	case api.NodeNotBehind:
		m.none(func() { m.behind(n.Kids[0]) })
	case api.NodeAgain:
		m.add(api.Op{Do: api.OpAgain, To: n.Number, Fold: n.Fold})
	default:
		m.add(api.Op{Do: api.OpLook, Kind: n.Kind})
	}
}

func (m *maker) either(kids []api.Node) {
	end, last := m.newLabel(), len(kids)-1
	for _, kid := range kids[:last] {
		this, other := m.newLabel(), m.newLabel()
		m.add(api.Op{Do: api.OpSplit, To: this, Other: other})
		m.stand(this)
		m.node(kid)
		m.add(api.Op{Do: api.OpJump, To: end})
		m.stand(other)
	}
	m.node(kids[last])
	m.stand(end)
}

func (m *maker) group(n api.Node) {
	begin := m.newCounter()
	m.add(api.Op{Do: api.OpMark, To: begin})
	m.node(n.Kids[0])
	m.add(api.Op{Do: api.OpSave, To: n.Number, Other: begin})
}

// first of some ways alone; back: where one was ahead of it.
func (m *maker) first(back bool, some func()) {
	begin := m.newCounter()
	m.add(api.Op{Do: api.OpMark, To: begin})
	some()
	m.add(api.Op{Do: api.OpCut, To: begin, Back: back})
}

// none of some ways: one, as it is, if there is none of those.
func (m *maker) none(some func()) {
	begin, look, end := m.newCounter(), m.newLabel(), m.newLabel()
	m.add(api.Op{Do: api.OpMark, To: begin})
	m.add(api.Op{Do: api.OpSplit, To: look, Other: end})
	m.stand(look)
	some()
	m.add(api.Op{Do: api.OpCut, To: begin})
	m.add(api.Op{Do: api.OpFail})
	m.stand(end)
}

// behind: those ways of a Kid that begin as many points back as it may take, the fewest first, and end where one is.
func (m *maker) behind(kid api.Node) {
	takes, here := tree.Facts(kid), m.newCounter()
	back, try, more, end := m.newLabel(), m.newLabel(), m.newLabel(), m.newLabel()
	m.add(api.Op{Do: api.OpMark, To: here})
	m.add(api.Op{Do: api.OpCount, To: here, Least: takes.Least})
	m.stand(back)
	m.add(api.Op{Do: api.OpBack, To: here})
	m.add(api.Op{Do: api.OpSplit, To: try, Other: more})
	m.stand(try)
	m.node(kid)
	m.add(api.Op{Do: api.OpMoved, To: here, Other: end})
	m.add(api.Op{Do: api.OpFail})
	m.stand(more)
	m.add(api.Op{Do: api.OpMore, To: here, Least: takes.Most + 1, Other: back})
	m.add(api.Op{Do: api.OpFail})
	m.stand(end)
}
