package facts

import (
	"slices"

	"thicket/api"
	"thicket/set"
	"thicket/tree"
)

// firstOf a node that was checked: the points that its ways may take first.
func firstOf(n api.Node) []api.Range {
	switch n.Kind {
	case api.NodeSet:
		return slices.Clone(n.Set)
	case api.NodeRow:
		return firstOfRow(n.Kids)
	case api.NodeEither:
		return firstOfAny(n.Kids)
	case api.NodeGroup, api.NodeAtomic:
		return firstOf(n.Kids[0])
	case api.NodeRepeat:
		return firstOfRepeat(n)
	case api.NodeAgain: // what its group has may begin with anything
		return anyPoint()
	}
	return nil
}

// firstOfRow goes up to the first Kid that takes a point in any case: whoever stands behind it takes none first.
func firstOfRow(kids []api.Node) []api.Range {
	for i, kid := range kids {
		if !mayTakeNone(kid) {
			return firstOfAny(kids[:i+1])
		}
	}
	return firstOfAny(kids)
}

func firstOfAny(kids []api.Node) []api.Range {
	var all []api.Range
	for _, kid := range kids {
		all = union(all, firstOf(kid))
	}
	return all
}

func firstOfRepeat(n api.Node) []api.Range {
	if n.Most == 0 {
		return nil
	}
	return firstOf(n.Kids[0])
}

func mayTakeNone(n api.Node) bool { return tree.Facts(n).Least == 0 }

// union of two sets; where that would be too many ranges, it is all points, as a set may have more than it must.
func union(a, b []api.Range) []api.Range {
	all, err := set.Union(a, b)
	if err != api.OK {
		return anyPoint()
	}
	return all
}

func anyPoint() []api.Range { return []api.Range{{From: 0, To: api.MaxPoint}} }
