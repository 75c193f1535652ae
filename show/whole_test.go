package show_test

import (
	"fmt"
	"slices"
	"strings"
	"testing"

	"thicket/api"
	"thicket/parse"
	"thicket/show"
)

// grower of trees such as Parse makes; it chooses by numbers that are the same each time.
type grower struct {
	seed   uint64
	groups int
	names  []api.Name
}

func (g *grower) draw(n int) int {
	g.seed = g.seed*6364136223846793005 + 1442695040888963407
	return int(g.seed >> 33 % uint64(n))
}

func (g *grower) set() api.Node {
	n := api.Node{Kind: api.NodeSet}
	at := 0
	for range g.draw(4) {
		at += 2 + g.draw(1<<g.draw(18))
		n.Set = append(n.Set, api.Range{From: at - 2, To: at - 2 + g.draw(2)*g.draw(9)})
		at = n.Set[len(n.Set)-1].To + 2
	}
	return n
}

// node that is none of some kinds, and so deep at most.
func (g *grower) node(deep int, but ...int) api.Node {
	kind := 1 + g.draw(api.NodeAgain)
	if deep == 0 {
		kind = 1 + g.draw(api.NodeNoWord)
	}
	if slices.Contains(but, kind) || kind == api.NodeGroup && g.groups == api.MaxGroups || kind == api.NodeAgain && g.groups == 0 {
		return g.set()
	}
	n := api.Node{Kind: kind}
	switch {
	case kind == api.NodeSet:
		return g.set()
	case kind == api.NodeRow:
		for range 2 + g.draw(3) {
			n.Kids = append(n.Kids, g.node(deep-1, api.NodeRow, api.NodeEmpty))
		}
	case kind == api.NodeEither:
		for range 2 + g.draw(3) {
			n.Kids = append(n.Kids, g.node(deep-1, api.NodeEither))
		}
	case kind == api.NodeAgain:
		n.Number, n.Fold = 1+g.draw(g.groups), g.draw(2) == 0
	case kind == api.NodeGroup:
		g.groups++
		n.Number = g.groups
		if g.draw(2) == 0 {
			g.names = append(g.names, api.Name{Text: fmt.Sprintf("n%d", g.draw(9)*100+g.groups), Number: g.groups})
		}
	case kind == api.NodeRepeat:
		n.Least, n.Way = g.draw(api.MaxTimes+1), 1+g.draw(3)
		n.Most = max(n.Least, g.draw(api.MaxTimes+1))
		if g.draw(3) == 0 {
			n.Most = -1
		}
	}
	if kind >= api.NodeGroup && kind <= api.NodeNotBehind {
		n.Kids = []api.Node{g.node(deep - 1)}
	}
	return n
}

// told is a tree as a pattern, told here once more: what it is like, and then what stands around it for the one above it.
func told(n api.Node, above int, names []api.Name) string {
	var kids []string
	for _, kid := range n.Kids {
		kids = append(kids, told(kid, n.Kind, names))
	}
	all := strings.Join(kids, "")
	signs := []string{"", "(?:)", "", "^", "$", `\A`, `\z`, `\b`, `\B`, "%s", "", "(%s)", "", "(?>%s)", "(?=%s)", "(?!%s)", "(?<=%s)", "(?<!%s)", ""}
	out := strings.Replace(signs[n.Kind], "%s", all, 1)
	switch n.Kind {
	case api.NodeSet:
		out = "["
		for _, r := range n.Set {
			out += fmt.Sprintf(`\x{%x}-\x{%x}`, r.From, r.To)
		}
		if out == "[" {
			out = `[^\x{0}-\x{10ffff}`
		}
		out += "]"
	case api.NodeEither:
		out = strings.Join(kids, "|")
	case api.NodeGroup:
		if i := slices.IndexFunc(names, func(m api.Name) bool { return m.Number == n.Number }); i >= 0 {
			out = "(?<" + names[i].Text + ">" + all + ")"
		}
	case api.NodeRepeat:
		out = fmt.Sprintf("%s{%d,%d}%s", all, n.Least, n.Most, []string{"", "?", "+"}[n.Way-1])
		out = strings.Replace(out, ",-1}", ",}", 1)
	case api.NodeAgain:
		out = fmt.Sprintf(`\k<%d>`, n.Number)
		if n.Fold {
			out = "(?i:" + out + ")"
		}
	}
	inRow := above == api.NodeRow && n.Kind == api.NodeEither
	if inRow || above == api.NodeRepeat && (n.Kind == api.NodeRow || n.Kind == api.NodeEither || n.Kind == api.NodeRepeat) {
		out = "(?:" + out + ")"
	}
	return out
}

// H2, H4: many trees, as they are told once more, and as they are read again.
func TestManyTrees(t *testing.T) {
	g := &grower{seed: 1}
	read := 0
	for i := range 20000 {
		g.groups, g.names = 0, nil
		tree := g.node(1 + i%6)
		p := api.Pattern{Tree: tree, Groups: g.groups, Names: g.names}
		if count, err := show.Nodes(tree); err != api.OK || count > api.MaxNodes {
			continue
		}
		shown(t, p, told(tree, 0, g.names))
		if s, _ := show.Show(p); len(s) <= api.MaxPattern {
			read++
		}
		if t.Failed() {
			return
		}
	}
	if read < 10000 {
		t.Errorf("too few are short: %d", read)
	}
}

// H4: what is parsed passes Check, and is the same when it was shown and is parsed again; and shown again, too.
func TestParsed(t *testing.T) {
	pieces := map[int]string{
		api.DialectRuby:  `a k | ( ) (?: (?i: (?i) (?<x> (?<=  * {2,}? \1 \k<x> [^a] \W . \A`,
		api.DialectPosix: `a | ( ) * {2} [] ] . $`,
		api.DialectEmacs: "a \\| \\( \\) * \\{2\\} \\1 \\w \\`",
	}
	for dialect, l := range pieces {
		eachText(strings.Fields(l), 3, func(s string) {
			for _, folded := range []bool{false, true} {
				p, fault := parse.Parse(dialect, pts(s), folded)
				if fault.Err != api.OK {
					continue
				}
				if err := show.Check(p); err != api.OK {
					t.Fatalf("dialect %d, %q is parsed, but: %d", dialect, s, err)
				}
				shown(t, p, told(p.Tree, 0, p.Names))
			}
		})
	}
}

// eachText hands on all texts of up to so many pieces.
func eachText(pieces []string, most int, take func(s string)) {
	take("")
	if most == 0 {
		return
	}
	for _, p := range pieces {
		eachText(pieces, most-1, func(s string) { take(p + s) })
	}
}

// H4: patterns that are as deep as they may be, and have most groups and repeats, pass Check.
func TestParsedLimits(t *testing.T) {
	for _, s := range []string{
		strings.Repeat("(", 20) + "a" + strings.Repeat("|b)****", 20), strings.Repeat("(?:a|", 20) + "b" + strings.Repeat("c)*+*", 20), strings.Repeat("()", 20) + `\20`, strings.Repeat("|", 300), strings.Repeat("a****", 60),
	} {
		p, fault := parse.Parse(api.DialectRuby, pts(s), true)
		if err := show.Check(p); err != api.OK || fault != (api.Fault{}) {
			t.Errorf("%q: %v %d", s, fault, err)
		}
	}
}

// P2, P3: what is handed in is only read, and what is told is the same each time.
func TestMemory(t *testing.T) {
	build := func() api.Pattern {
		kids := []api.Node{group(1, either(a, b)), repeat(0, 1, 2, setOf('x', 'y')), again(1, true), node(99)}
		names := []api.Name{{Text: "x", Number: 1}, {Text: "", Number: 7}}
		return api.Pattern{Tree: row(kids[:3]...), Groups: 1, Names: names[:1]}
	}
	p, keep := build(), build()
	first, _ := show.Show(p)
	for range 3 {
		s, err := show.Show(p)
		count, _ := show.Nodes(p.Tree)
		if s != first || err != api.OK || count != 8 || show.Check(p) != api.OK {
			t.Errorf("again: %q %d %d", s, err, count)
		}
	}
	spare := row(p.Tree.Kids[:4]...)
	if !same(spare, row(keep.Tree.Kids[:4]...)) || !slices.Equal(p.Names[:2], keep.Names[:2]) {
		t.Error("what was handed in is changed")
	}
}
