package show

import (
	"thicket/api"
	"thicket/points"
	"thicket/set"
)

// checker of a tree: what it knows from the nodes that it saw.
type checker struct {
	groups int
	agains []int
}

// must hold, or there is this error.
func must(holds bool, err api.Errno) {
	if !holds {
		panic(err)
	}
}

// node and those in it, each ahead of its Kids.
func (c *checker) node(n api.Node) {
	must(n.Kind >= api.NodeEmpty && n.Kind <= api.NodeAgain, api.ErrKind)
	must(hasItsKids(n) && hasItsFields(n), api.ErrForm)
	err := set.Check(n.Set)
	must(err == api.OK, err)
	switch n.Kind {
	case api.NodeRepeat:
		checkRepeat(n)
	case api.NodeGroup:
		c.groups++
		must(n.Number == c.groups, api.ErrState)
	case api.NodeAgain:
		c.agains = append(c.agains, n.Number)
	}
	for _, kid := range n.Kids {
		c.node(kid)
	}
}

// hasItsKids tells whether a node has as many Kids as its kind asks for, and such as may stand in it.
func hasItsKids(n api.Node) bool {
	switch {
	case n.Kind == api.NodeRow:
		return len(n.Kids) >= 2 && !hasKid(n, api.NodeRow) && !hasKid(n, api.NodeEmpty)
	case n.Kind == api.NodeEither:
		return len(n.Kids) >= 2 && !hasKid(n, api.NodeEither)
	case n.Kind >= api.NodeGroup && n.Kind <= api.NodeNotBehind:
		return len(n.Kids) == 1
	}
	return len(n.Kids) == 0
}

func hasKid(n api.Node, kind int) bool {
	for _, kid := range n.Kids {
		if kid.Kind == kind {
			return true
		}
	}
	return false
}

// hasItsFields tells whether all fields that the kind of a node does not name are zero, but for Kids.
func hasItsFields(n api.Node) bool {
	switch n.Kind {
	case api.NodeSet:
		n.Set = nil
	case api.NodeGroup:
		n.Number = 0
	case api.NodeRepeat:
		n.Least, n.Most, n.Way = 0, 0, 0
	case api.NodeAgain:
		n.Number, n.Fold = 0, false
	}
	return len(n.Set) == 0 && n.Number == 0 && n.Least == 0 && n.Most == 0 && n.Way == 0 && !n.Fold
}

func checkRepeat(n api.Node) {
	must(n.Least >= 0 && n.Least <= api.MaxTimes, api.ErrRange)
	must(n.Most == -1 || n.Most >= n.Least && n.Most <= api.MaxTimes, api.ErrRange)
	must(n.Way >= api.WayGreedy && n.Way <= api.WayPossessive, api.ErrKind)
}

// counts of groups: that of the tree, and the one that a pattern tells.
func (c *checker) counts(groups int) {
	must(c.groups <= api.MaxGroups, api.ErrMany)
	must(c.groups == groups, api.ErrState)
}

// numbers that must be those of groups.
func (c *checker) numbers(names []api.Name) {
	for _, number := range c.agains {
		c.number(number)
	}
	for _, n := range names {
		c.number(n.Number)
	}
}

func (c *checker) number(number int) {
	must(number >= 1 && number <= c.groups, api.ErrNone)
}

func checkNames(names []api.Name) {
	for _, n := range names {
		must(points.IsName(n.Text), api.ErrForm)
	}
	for i, n := range names {
		for _, m := range names[:i] {
			must(n.Text != m.Text && n.Number != m.Number, api.ErrTwice)
		}
	}
	for i := 1; i < len(names); i++ {
		must(names[i].Number > names[i-1].Number, api.ErrState)
	}
}
