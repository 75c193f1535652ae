package code

import (
	"thicket/api"
	"thicket/tree"
)

func (m *maker) repeat(n api.Node) {
	switch {
	case n.Most == 0: // its Kid is never begun
	case n.Way == api.WayPossessive:
		m.first(false, func() { m.rounds(n) })
	default:
		m.rounds(n)
	}
}

// rounds of a NodeRepeat. Its counter's number is how many were done, and its place where the last one began; what of this does not matter is left out, as each operation burns fuel.
type rounds struct {
	*maker
	api.Node
	counted bool // it matters how many there were
	watched bool // one may end where it began
	done    int  // the counter
	fail    int  // the label of what fails
}

func (m *maker) rounds(n api.Node) {
	r := &rounds{maker: m, Node: n, counted: n.Least > 0 || n.Most > 0, fail: m.newLabel()}
	r.watched = n.Least != n.Most && tree.Facts(n.Kids[0]).Least == 0
	if r.counted || r.watched {
		r.done = m.newCounter()
	}
	r.all()
}

func (r *rounds) all() {
	next, begin, end := r.newLabel(), r.newLabel(), r.newLabel()
	if r.counted {
		r.add(api.Op{Do: api.OpCount, To: r.done})
	}
	r.stand(next)
	if r.Least != r.Most {
		r.choice(begin, end)
	}
	r.stand(begin)
	r.round()
	if r.counted {
		r.add(api.Op{Do: api.OpMore, To: r.done, Least: max(r.Most, 0), Other: next})
	}
	if r.Most < 0 {
		r.add(api.Op{Do: api.OpJump, To: next})
	}
	r.stand(end)
}

// choice between another round and the end, where there need not be another one.
func (r *rounds) choice(begin, end int) {
	if r.Least > 0 {
		r.add(api.Op{Do: api.OpUnder, To: r.done, Least: r.Least, Other: begin})
	}
	if r.Way == api.WayLazy {
		begin, end = end, begin
	}
	r.add(api.Op{Do: api.OpSplit, To: begin, Other: end})
	if r.watched {
		r.stand(r.fail)
		r.add(api.Op{Do: api.OpFail})
	}
}

// round: if there need not be one, it fails where it ends as it began.
func (r *rounds) round() {
	if !r.watched {
		r.node(r.Kids[0])
		return
	}
	end := r.newLabel()
	r.add(api.Op{Do: api.OpMark, To: r.done})
	r.node(r.Kids[0])
	if r.Least > 0 {
		r.add(api.Op{Do: api.OpUnder, To: r.done, Least: r.Least, Other: end})
	}
	r.add(api.Op{Do: api.OpMoved, To: r.done, Other: r.fail})
	r.stand(end)
}
