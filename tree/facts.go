package tree

import "thicket/api"

const (
	noEnd    = -1
	maxTaken = 1000000 // beyond it a Least does not grow, and a Most has no end
)

// Facts of a tree that was checked, or of a part of one: the groups of a part are numbered as they are in the whole, so no call of a layer tells them.
func Facts(n api.Node) api.Facts {
	switch n.Kind {
	case api.NodeEmpty:
		return api.Facts{Plain: true}
	case api.NodeSet:
		return api.Facts{Least: 1, Most: 1, Plain: true}
	case api.NodeRow:
		return rowFacts(n.Kids)
	case api.NodeEither:
		return eitherFacts(n.Kids)
	case api.NodeGroup, api.NodeAtomic:
		return Facts(n.Kids[0])
	case api.NodeRepeat:
		return repeatFacts(n)
	case api.NodeAgain:
		return api.Facts{Most: noEnd}
	}
	return api.Facts{} // it looks, and takes nothing
}

func rowFacts(kids []api.Node) api.Facts {
	sum := Facts(kids[0])
	for _, kid := range kids[1:] {
		f := Facts(kid)
		sum.Least = leastTaken(sum.Least + f.Least)
		sum.Most = mostAdded(sum.Most, f.Most)
		sum.Plain = sum.Plain && f.Plain
	}
	return sum
}

func eitherFacts(kids []api.Node) api.Facts {
	whole := Facts(kids[0])
	for _, kid := range kids[1:] {
		f := Facts(kid)
		whole.Least = min(whole.Least, f.Least)
		whole.Most = greaterMost(whole.Most, f.Most)
		whole.Plain = whole.Plain && f.Plain
	}
	return whole
}

func repeatFacts(n api.Node) api.Facts {
	f := Facts(n.Kids[0])
	f.Least = leastTaken(f.Least * n.Least)
	f.Most = mostTimes(f.Most, n.Most)
	return f
}

func leastTaken(n int) int { return min(n, maxTaken) }

func mostTaken(n int) int {
	if n > maxTaken {
		return noEnd
	}
	return n
}

func mostAdded(a, b int) int {
	if a < 0 || b < 0 {
		return noEnd
	}
	return mostTaken(a + b)
}

func greaterMost(a, b int) int {
	if a < 0 || b < 0 {
		return noEnd
	}
	return max(a, b)
}

func mostTimes(a, b int) int {
	if a == 0 || b == 0 {
		return 0
	}
	if a < 0 || b < 0 {
		return noEnd
	}
	return mostTaken(a * b)
}
