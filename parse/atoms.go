package parse

import (
	"thicket/api"
	"thicket/bracket"
	"thicket/fold"
	"thicket/set"
)

// atom that begins with this token; it goes past it.
func (r *reader) atom() api.Node {
	switch r.token.Kind {
	case api.TokenRepeat: // with nothing ahead of it
		giveUp(api.ErrForm, r.at)
	case api.TokenOpen:
		return r.open()
	}
	n := r.single()
	r.advance()
	return n
}

// single is the node of a token that is an atom by itself, or with its bracket expression.
func (r *reader) single() api.Node {
	t := r.token
	switch t.Kind {
	case api.TokenLook:
		return api.Node{Kind: t.Number}
	case api.TokenAgain:
		return r.again()
	case api.TokenOption:
		r.folded = r.foldedBy(t.Fold)
		return api.Node{Kind: api.NodeEmpty}
	}
	return api.Node{Kind: api.NodeSet, Set: r.set()}
}

// set of points that a token means.
func (r *reader) set() []api.Range {
	t := r.token
	switch t.Kind {
	case api.TokenPoint:
		return r.fold(onePoint(t.Number))
	case api.TokenClass:
		return r.class(t.Text, t.Not)
	case api.TokenSet:
		return r.bracket()
	}
	return not(onePoint('\n'))
}

func onePoint(p int) []api.Range { return []api.Range{{From: p, To: p}} }

// class by its name; it is folded before it is turned over.
func (r *reader) class(name string, turned bool) []api.Range {
	a, _ := fold.Class(name)
	a = r.fold(a)
	if turned {
		return not(a)
	}
	return a
}

// bracket expression behind this token, up to its end.
func (r *reader) bracket() []api.Range {
	a, next, fault := bracket.Parse(r.dialect, r.pattern, r.next, r.folded)
	if fault.Err != api.OK { // at 0 it is told of the whole expression, which begins here
		giveUp(fault.Err, max(fault.At, r.at))
	}
	r.next = next
	return a
}

// fold a set, if that is asked for. Points and classes are far from too many ranges, folded or turned over.
func (r *reader) fold(a []api.Range) []api.Range {
	if r.folded {
		a, _ = set.Fold(a)
	}
	return a
}

func not(a []api.Range) []api.Range {
	a, _ = set.Not(a)
	return a
}

// foldedBy tells whether points are folded where an option stands: 1 on, -1 off, 0 as they are.
func (r *reader) foldedBy(option int) bool {
	if option == 0 {
		return r.folded
	}
	return option > 0
}

// open a group, or what else stands between TokenOpen and TokenClose; it goes past it.
func (r *reader) open() api.Node {
	t := r.token
	if r.deep == api.MaxDeep {
		giveUp(api.ErrMany, r.at)
	}
	n := api.Node{Kind: t.Number}
	if t.Number == api.NodeGroup {
		n.Number = r.begin(t.Text)
	}
	r.advance()
	r.deep++
	within := r.branches(r.foldedBy(t.Fold))
	r.deep--
	if r.token.Kind != api.TokenClose {
		giveUp(api.ErrForm, r.at)
	}
	r.advance()
	if t.Number == api.NodeEmpty {
		return within
	}
	n.Kids = []api.Node{within}
	return n
}

// begin a group with a name, or none: its number.
func (r *reader) begin(name string) int {
	if r.groups == api.MaxGroups {
		giveUp(api.ErrMany, r.at)
	}
	r.groups++
	if name == "" {
		return r.groups
	}
	if _, ok := numberIn(r.names, name); ok {
		giveUp(api.ErrTwice, r.at)
	}
	r.names = append(r.names, api.Name{Text: name, Number: r.groups})
	return r.groups
}
