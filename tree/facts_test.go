package tree_test

import (
	"testing"

	"thicket/api"
	"thicket/tree"
)

func row(kids ...api.Node) api.Node { return api.Node{Kind: api.NodeRow, Kids: kids} }

func repeat(least, most int, kid api.Node) api.Node {
	return api.Node{Kind: api.NodeRepeat, Least: least, Most: most, Way: api.WayGreedy, Kids: []api.Node{kid}}
}

// Parts whose groups are numbered as in the whole.
func TestFactsOfParts(t *testing.T) {
	point := api.Node{Kind: api.NodeSet}
	again := api.Node{Kind: api.NodeAgain, Number: 3}
	group := func(number int, kid api.Node) api.Node {
		return api.Node{Kind: api.NodeGroup, Number: number, Kids: []api.Node{kid}}
	}
	for i, c := range []struct {
		n    api.Node
		want api.Facts
	}{
		{group(7, point), api.Facts{Least: 1, Most: 1, Plain: true}},
		{row(group(7, point), group(8, point)), api.Facts{Least: 2, Most: 2, Plain: true}},
		{again, api.Facts{Least: 0, Most: -1}},
		{repeat(0, 0, again), api.Facts{}},
		{row(point, repeat(0, 0, again)), api.Facts{Least: 1, Most: 1}},
		{repeat(2, -1, row(group(9, point), point)), api.Facts{Least: 4, Most: -1, Plain: true}},
	} {
		if f := tree.Facts(c.n); f != c.want {
			t.Errorf("%d: %v, must be %v", i, f, c.want)
		}
	}
}
