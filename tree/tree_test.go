package tree_test

import (
	"testing"

	"thicket/api"
	"thicket/tree"
)

func counted(t *testing.T, n api.Node, want int) {
	t.Helper()
	count, err := tree.Count(n)
	if want == 0 && (count != 0 || err != api.ErrMany) || want > 0 && (count != want || err != api.OK) {
		t.Errorf("%d %d, must be %d", count, err, want)
	}
}

// chain of so many nodes, each but the last with one Kid.
func chain(nodes int) api.Node {
	n := api.Node{}
	for range nodes - 1 {
		n = api.Node{Kids: []api.Node{n}}
	}
	return n
}

func TestCount(t *testing.T) {
	counted(t, api.Node{}, 1)
	counted(t, api.Node{Kids: []api.Node{}}, 1)
	counted(t, api.Node{Kids: make([]api.Node, 3)}, 4)
	counted(t, api.Node{Kids: []api.Node{chain(3), {}, chain(2)}}, 7)
	counted(t, api.Node{Kids: make([]api.Node, api.MaxNodes-1)}, api.MaxNodes)
	counted(t, api.Node{Kids: make([]api.Node, api.MaxNodes)}, 0)
	counted(t, api.Node{Kids: make([]api.Node, 1<<20)}, 0)
	// Behind a list no Kid is.
	counted(t, api.Node{Kids: make([]api.Node, 3)[:1]}, 2)
}

func TestDeep(t *testing.T) {
	counted(t, chain(10*api.MaxDeep+1), 10*api.MaxDeep+1)
	counted(t, chain(10*api.MaxDeep+2), 0)
	counted(t, chain(1<<16), 0)
	counted(t, api.Node{Kids: []api.Node{{}, chain(10 * api.MaxDeep)}}, 10*api.MaxDeep+2)
	counted(t, api.Node{Kids: []api.Node{chain(10*api.MaxDeep + 1), {}}}, 0)
	counted(t, api.Node{Kids: []api.Node{{}, chain(10*api.MaxDeep + 1)}}, 0)
	full := api.Node{Kids: []api.Node{chain(200), chain(200), chain(200), chain(200), chain(199)}}
	counted(t, full, api.MaxNodes)
	full.Kids = append(full.Kids, api.Node{})
	counted(t, full, 0)
}

// Trees whose nodes are one another's, or a Kid many times, end.
func TestRoundAndRound(t *testing.T) {
	kids := make([]api.Node, 2)
	kids[0].Kids, kids[1].Kids = kids, kids
	counted(t, kids[0], 0)
	one := make([]api.Node, 1)
	one[0].Kids = one
	counted(t, one[0], 0)
	n := api.Node{}
	for range 100 {
		n = api.Node{Kids: []api.Node{n, n}}
	}
	counted(t, n, 0)
}
