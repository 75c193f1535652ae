package parse

import "thicket/api"

// repeated is a node with the TokenRepeat behind it.
func repeated(n api.Node, t api.Token) api.Node {
	return api.Node{Kind: api.NodeRepeat, Least: t.Least, Most: t.Most, Way: t.Way, Kids: []api.Node{n}}
}

// row of pieces: what is empty is left out, and no row is within another one.
func row(pieces []api.Node) api.Node {
	var kids []api.Node
	for _, n := range pieces {
		switch n.Kind {
		case api.NodeEmpty:
		case api.NodeRow:
			kids = append(kids, n.Kids...)
		default:
			kids = append(kids, n)
		}
	}
	switch len(kids) {
	case 0:
		return api.Node{Kind: api.NodeEmpty}
	case 1:
		return kids[0]
	}
	return api.Node{Kind: api.NodeRow, Kids: kids}
}

// either of some branches: no either is within another one.
func either(branches []api.Node) api.Node {
	if len(branches) == 1 {
		return branches[0]
	}
	var kids []api.Node
	for _, n := range branches {
		if n.Kind == api.NodeEither {
			kids = append(kids, n.Kids...)
		} else {
			kids = append(kids, n)
		}
	}
	return api.Node{Kind: api.NodeEither, Kids: kids}
}
