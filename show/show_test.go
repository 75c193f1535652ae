package show_test

import (
	"fmt"
	"slices"
	"strings"
	"testing"

	"thicket/api"
	"thicket/parse"
	"thicket/show"
)

func pts(s string) []int {
	var l []int
	for _, c := range s {
		l = append(l, int(c))
	}
	return l
}

func node(kind int, kids ...api.Node) api.Node { return api.Node{Kind: kind, Kids: kids} }

func setOf(ends ...int) api.Node {
	n := api.Node{Kind: api.NodeSet}
	for i := 0; i < len(ends); i += 2 {
		n.Set = append(n.Set, api.Range{From: ends[i], To: ends[i+1]})
	}
	return n
}

func row(kids ...api.Node) api.Node { return node(api.NodeRow, kids...) }

func either(kids ...api.Node) api.Node { return node(api.NodeEither, kids...) }

func group(number int, kid api.Node) api.Node {
	return api.Node{Kind: api.NodeGroup, Number: number, Kids: []api.Node{kid}}
}

func repeat(least, most, way int, kid api.Node) api.Node {
	return api.Node{Kind: api.NodeRepeat, Least: least, Most: most, Way: way, Kids: []api.Node{kid}}
}

func again(number int, fold bool) api.Node {
	return api.Node{Kind: api.NodeAgain, Number: number, Fold: fold}
}

var (
	empty = node(api.NodeEmpty)
	a     = setOf('a', 'a')
	b     = setOf('b', 'b')
)

const (
	showA = `[\x{61}-\x{61}]`
	showB = `[\x{62}-\x{62}]`
)

// groupsIn counts the groups of a tree.
func groupsIn(n api.Node) int {
	count := 0
	if n.Kind == api.NodeGroup {
		count++
	}
	for _, kid := range n.Kids {
		count += groupsIn(kid)
	}
	return count
}

func same(a, b api.Node) bool {
	return a.Kind == b.Kind && a.Number == b.Number && a.Least == b.Least && a.Most == b.Most && a.Way == b.Way && a.Fold == b.Fold && slices.Equal(a.Set, b.Set) && slices.EqualFunc(a.Kids, b.Kids, same)
}

// deepest is how deep a pattern goes.
func deepest(s string) int {
	deep, most := 0, 0
	for _, c := range s {
		deep += strings.Count("(", string(c)) - strings.Count(")", string(c))
		most = max(most, deep)
	}
	return most
}

// shown holds a text against the answer, and, if it can be read, what is read against the tree.
func shown(t *testing.T, p api.Pattern, want string) {
	t.Helper()
	s, err := show.Show(p)
	if s != want || err != api.OK || show.Check(p) != api.OK {
		t.Errorf("%v: %q %d, must be %q", p, s, err, want)
	}
	q, fault := parse.Parse(api.DialectRuby, pts(s), false)
	if len(s) > api.MaxPattern || deepest(s) > api.MaxDeep {
		return
	}
	if fault != (api.Fault{}) || !same(p.Tree, q.Tree) || p.Groups != q.Groups || !slices.Equal(p.Names, q.Names) {
		t.Errorf("%q is read as %v, %v, must be %v", s, q, fault, p)
	}
}

func shownTree(t *testing.T, n api.Node, want string) {
	t.Helper()
	shown(t, api.Pattern{Tree: n, Groups: groupsIn(n)}, want)
}

// H2: each kind by itself.
func TestKinds(t *testing.T) {
	shownTree(t, empty, "(?:)")
	shownTree(t, a, showA)
	shownTree(t, setOf(), `[^\x{0}-\x{10ffff}]`)
	shownTree(t, api.Node{Kind: api.NodeSet, Set: []api.Range{}}, `[^\x{0}-\x{10ffff}]`)
	shownTree(t, setOf(0, api.MaxPoint), `[\x{0}-\x{10ffff}]`)
	shownTree(t, setOf(0, 9, 11, 15, 0xabc, 0xdef0, api.MaxPoint, api.MaxPoint), `[\x{0}-\x{9}\x{b}-\x{f}\x{abc}-\x{def0}\x{10ffff}-\x{10ffff}]`)
	shownTree(t, setOf(']', '^', 'a', 'b'), `[\x{5d}-\x{5e}\x{61}-\x{62}]`)
	for kind, want := range map[int]string{api.NodeLineStart: "^", api.NodeLineEnd: "$", api.NodeTextStart: `\A`, api.NodeTextEnd: `\z`, api.NodeWord: `\b`, api.NodeNoWord: `\B`} {
		shownTree(t, node(kind), want)
		shownTree(t, row(node(kind), a, node(kind)), want+showA+want)
	}
	shownTree(t, row(a, b), showA+showB)
	shownTree(t, row(a, b, a), showA+showB+showA)
	shownTree(t, either(a, b), showA+"|"+showB)
	shownTree(t, either(a, b, a), showA+"|"+showB+"|"+showA)
	shownTree(t, group(1, a), "("+showA+")")
	for kind, want := range map[int]string{api.NodeAtomic: "(?>", api.NodeAhead: "(?=", api.NodeNotAhead: "(?!", api.NodeBehind: "(?<=", api.NodeNotBehind: "(?<!"} {
		shownTree(t, node(kind, a), want+showA+")")
		shownTree(t, node(kind, empty), want+"(?:))")
		shownTree(t, node(kind, node(kind, either(a, row(b, a)))), want+want+showA+"|"+showB+showA+"))")
	}
	shownTree(t, row(group(1, empty), again(1, false)), `((?:))\k<1>`)
	shownTree(t, row(group(1, empty), again(1, true)), `((?:))(?i:\k<1>)`)
	shownTree(t, row(again(1, true), group(1, again(1, false))), `(?i:\k<1>)(\k<1>)`)
}

// H2: how often, and which way.
func TestRepeats(t *testing.T) {
	shownTree(t, repeat(0, -1, api.WayGreedy, a), showA+"{0,}")
	shownTree(t, repeat(1, -1, api.WayLazy, a), showA+"{1,}?")
	shownTree(t, repeat(0, 1, api.WayPossessive, a), showA+"{0,1}+")
	shownTree(t, repeat(0, 0, api.WayGreedy, a), showA+"{0,0}")
	shownTree(t, repeat(2, 2, api.WayGreedy, a), showA+"{2,2}")
	shownTree(t, repeat(10, 100, api.WayLazy, a), showA+"{10,100}?")
	shownTree(t, repeat(100, -1, api.WayGreedy, a), showA+"{100,}")
}

// H2: what stands in `(?:` and `)`, and what does not.
func TestAlone(t *testing.T) {
	shownTree(t, row(either(a, b), a), "(?:"+showA+"|"+showB+")"+showA)
	shownTree(t, row(a, either(a, b)), showA+"(?:"+showA+"|"+showB+")")
	shownTree(t, row(repeat(0, 1, 1, a), b), showA+"{0,1}"+showB)
	shownTree(t, row(repeat(0, 1, 1, either(a, b)), b), "(?:"+showA+"|"+showB+"){0,1}"+showB)
	shownTree(t, either(row(a, b), empty), showA+showB+"|(?:)")
	shownTree(t, either(empty, empty), "(?:)|(?:)")
	shownTree(t, either(repeat(1, 1, 1, a), row(a, either(b, empty))), showA+"{1,1}|"+showA+"(?:"+showB+"|(?:))")
	shownTree(t, group(1, either(a, b)), "("+showA+"|"+showB+")")
	shownTree(t, group(1, row(a, b)), "("+showA+showB+")")
	shownTree(t, group(1, repeat(0, 1, 1, a)), "("+showA+"{0,1})")
	shownTree(t, node(api.NodeAhead, either(a, b)), "(?="+showA+"|"+showB+")")
	shownTree(t, repeat(0, 1, 1, row(a, b)), "(?:"+showA+showB+"){0,1}")
	shownTree(t, repeat(0, 1, 1, either(a, b)), "(?:"+showA+"|"+showB+"){0,1}")
	shownTree(t, repeat(0, 1, 2, repeat(2, -1, 3, a)), "(?:"+showA+"{2,}+){0,1}?")
	shownTree(t, repeat(0, 1, 1, repeat(0, 1, 1, repeat(0, 1, 1, a))), "(?:(?:"+showA+"{0,1}){0,1}){0,1}")
	shownTree(t, repeat(0, 1, 1, empty), "(?:){0,1}")
	shownTree(t, repeat(0, 1, 1, group(1, row(a, b))), "("+showA+showB+"){0,1}")
	shownTree(t, repeat(0, 1, 1, node(api.NodeAtomic, either(a, b))), "(?>"+showA+"|"+showB+"){0,1}")
	shownTree(t, repeat(0, 1, 1, node(api.NodeLineStart)), "^{0,1}")
	shownTree(t, row(group(1, a), repeat(0, 1, 1, again(1, true))), "("+showA+`)(?i:\k<1>){0,1}`)
}

// H2: names of groups.
func TestNames(t *testing.T) {
	tree := row(group(1, a), group(2, group(3, b)), group(4, again(2, false)))
	shown(t, api.Pattern{Tree: tree, Groups: 4}, "("+showA+")(("+showB+`))(\k<2>)`)
	shown(t, api.Pattern{Tree: tree, Groups: 4, Names: []api.Name{{Text: "z", Number: 1}}}, "(?<z>"+showA+")(("+showB+`))(\k<2>)`)
	shown(t, api.Pattern{Tree: tree, Groups: 4, Names: []api.Name{{Text: "_9", Number: 2}, {Text: "aZ", Number: 3}, {Text: "A", Number: 4}}}, "("+showA+")(?<_9>(?<aZ>"+showB+`))(?<A>\k<2>)`)
	long := strings.Repeat("n", 20)
	shown(t, api.Pattern{Tree: group(1, a), Groups: 1, Names: []api.Name{{Text: long, Number: 1}}}, "(?<"+long+">"+showA+")")
}

// H2: what is too long to be read is shown all the same.
func TestLong(t *testing.T) {
	n := node(api.NodeEither)
	for range api.MaxNodes - 1 {
		n.Kids = append(n.Kids, a)
	}
	shownTree(t, n, strings.Repeat(showA+"|", api.MaxNodes-2)+showA)
	n = a
	for range 10 * api.MaxDeep {
		n = node(api.NodeBehind, n)
	}
	shownTree(t, n, strings.Repeat("(?<=", 200)+showA+strings.Repeat(")", 200))
	set, want := setOf(), ""
	for i := range api.MaxRanges {
		set.Set = append(set.Set, api.Range{From: 3 * i, To: 3*i + 1})
		want += fmt.Sprintf(`\x{%x}-\x{%x}`, 3*i, 3*i+1)
	}
	shownTree(t, set, "["+want+"]")
}

// H3: how many nodes.
func TestNodes(t *testing.T) {
	for _, c := range []struct {
		n     api.Node
		count int
	}{
		{api.Node{}, 1}, {a, 1}, {row(a, b), 3}, {row(a, either(b, a), repeat(1, 1, 1, a)), 7}, {node(99, node(-1), node(0, a)), 4}, {api.Node{Kind: api.NodeEither, Kids: make([]api.Node, api.MaxNodes-1)}, api.MaxNodes},
	} {
		if count, err := show.Nodes(c.n); count != c.count || err != api.OK {
			t.Errorf("%v: %d %d, must be %d", c.n, count, err, c.count)
		}
	}
	deep := a
	for range 10 * api.MaxDeep {
		deep = group(0, deep)
	}
	if count, err := show.Nodes(deep); count != 10*api.MaxDeep+1 || err != api.OK {
		t.Errorf("10 MaxDeep deep: %d %d", count, err)
	}
	round := make([]api.Node, 1)
	round[0].Kids = round
	for _, n := range []api.Node{row(deep, a), {Kids: make([]api.Node, api.MaxNodes)}, round[0]} {
		if count, err := show.Nodes(n); count != 0 || err != api.ErrMany {
			t.Errorf("too many, or too deep: %d %d", count, err)
		}
		p := api.Pattern{Tree: n}
		if s, err := show.Show(p); s != "" || err != api.ErrMany || show.Check(p) != api.ErrMany {
			t.Errorf("too many, or too deep, is shown: %q %d", s, err)
		}
	}
}
