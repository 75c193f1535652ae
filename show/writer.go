package show

import (
	"slices"
	"strconv"
	"strings"

	"thicket/api"
)

// writer of a tree that was checked.
type writer struct {
	strings.Builder
	names []api.Name
}

// add texts, one behind the other.
func (w *writer) add(texts ...string) {
	for _, t := range texts {
		w.WriteString(t)
	}
}

func (w *writer) node(n api.Node) {
	switch n.Kind {
	case api.NodeSet:
		w.set(n.Set)
	case api.NodeRow:
		w.row(n.Kids)
	case api.NodeEither:
		w.either(n.Kids)
	case api.NodeRepeat:
		w.repeat(n)
	case api.NodeAgain:
		w.again(n)
	case api.NodeGroup, api.NodeAtomic, api.NodeAhead, api.NodeNotAhead, api.NodeBehind, api.NodeNotBehind:
		w.add(w.opening(n))
		w.node(n.Kids[0])
		w.add(")")
	default:
		w.add(sign(n.Kind))
	}
}

func (w *writer) set(a []api.Range) {
	if len(a) == 0 {
		w.add(`[^\x{0}-\x{10ffff}]`)
		return
	}
	w.add("[")
	for _, r := range a {
		w.add(`\x{`, hex(r.From), `}-\x{`, hex(r.To), "}")
	}
	w.add("]")
}

func hex(p int) string { return strconv.FormatInt(int64(p), 16) }

func (w *writer) row(kids []api.Node) {
	for _, kid := range kids {
		w.part(kid, api.NodeEither)
	}
}

func (w *writer) either(kids []api.Node) {
	for i, kid := range kids {
		if i > 0 {
			w.add("|")
		}
		w.node(kid)
	}
}

// part of another node, in which some kinds would be read otherwise, if they did not stand by themselves.
func (w *writer) part(n api.Node, alone ...int) {
	if !slices.Contains(alone, n.Kind) {
		w.node(n)
		return
	}
	w.add("(?:")
	w.node(n)
	w.add(")")
}

func (w *writer) repeat(n api.Node) {
	w.part(n.Kids[0], api.NodeRow, api.NodeEither, api.NodeRepeat)
	w.add("{", strconv.Itoa(n.Least), ",")
	if n.Most >= 0 {
		w.add(strconv.Itoa(n.Most))
	}
	w.add("}", way(n.Way))
}

func way(way int) string {
	switch way {
	case api.WayLazy:
		return "?"
	case api.WayPossessive:
		return "+"
	}
	return ""
}

func (w *writer) again(n api.Node) {
	from, to := `\k<`, ">"
	if n.Fold {
		from, to = `(?i:\k<`, ">)"
	}
	w.add(from, strconv.Itoa(n.Number), to)
}

// opening of what has one Kid.
func (w *writer) opening(n api.Node) string {
	switch n.Kind {
	case api.NodeAtomic:
		return "(?>"
	case api.NodeAhead:
		return "(?="
	case api.NodeNotAhead:
		return "(?!"
	case api.NodeBehind:
		return "(?<="
	case api.NodeNotBehind:
		return "(?<!"
	}
	for _, name := range w.names {
		if name.Number == n.Number {
			return "(?<" + name.Text + ">"
		}
	}
	return "("
}

// sign of a kind that has nothing but itself.
func sign(kind int) string {
	switch kind {
	case api.NodeLineStart:
		return "^"
	case api.NodeLineEnd:
		return "$"
	case api.NodeTextStart:
		return `\A`
	case api.NodeTextEnd:
		return `\z`
	case api.NodeWord:
		return `\b`
	case api.NodeNoWord:
		return `\B`
	}
	return "(?:)"
}
