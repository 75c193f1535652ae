package parse

import "thicket/api"

// again is a group that is asked for once more: which one, by its number or its name, and where.
type again struct {
	number int
	name   string
	at     int
}

// again makes a node of a TokenAgain. Its group may begin behind it, so its Number is for now which of all agains it is.
func (r *reader) again() api.Node {
	a := again{number: r.token.Number, name: r.token.Text, at: r.at}
	if a.number < 0 {
		a.number += r.groups + 1
		if a.number <= 0 {
			giveUp(api.ErrNone, r.at)
		}
	}
	r.agains = append(r.agains, a)
	return api.Node{Kind: api.NodeAgain, Number: len(r.agains) - 1, Fold: r.folded}
}

// againNumbers are the numbers of all groups that are asked for once more, now that all names are known.
func (r *reader) againNumbers() []int {
	var numbers []int
	for _, a := range r.agains {
		if a.name != "" {
			a.number, _ = numberIn(r.names, a.name)
		}
		if a.number < 1 || a.number > r.groups {
			giveUp(api.ErrNone, a.at)
		}
		numbers = append(numbers, a.number)
	}
	return numbers
}

// settle which groups the agains of a tree ask for.
func settle(n *api.Node, numbers []int) {
	if n.Kind == api.NodeAgain {
		n.Number = numbers[n.Number]
	}
	for i := range n.Kids {
		settle(&n.Kids[i], numbers)
	}
}
