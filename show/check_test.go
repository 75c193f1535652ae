package show_test

import (
	"strings"
	"testing"

	"thicket/api"
	"thicket/show"
)

// isWrong holds an error against what Check and Show tell.
func isWrong(t *testing.T, p api.Pattern, want api.Errno) {
	t.Helper()
	if err := show.Check(p); err != want {
		t.Errorf("%v: %d, must be %d", p, err, want)
	}
	if s, err := show.Show(p); want != api.OK && s != "" || err != want {
		t.Errorf("%v is shown: %q %d, must be %d", p, s, err, want)
	}
}

// wrongTree is one with as many groups as it has, and no names.
func wrongTree(t *testing.T, n api.Node, want api.Errno) {
	t.Helper()
	isWrong(t, api.Pattern{Tree: n, Groups: groupsIn(n)}, want)
}

// right nodes, one of each kind, with fields as they may be.
func right() []api.Node {
	l := []api.Node{empty, a, row(a, b), either(a, b), group(1, a), repeat(2, 3, 3, a)}
	for kind := api.NodeLineStart; kind <= api.NodeNoWord; kind++ {
		l = append(l, node(kind))
	}
	for kind := api.NodeAtomic; kind <= api.NodeNotBehind; kind++ {
		l = append(l, node(kind, a))
	}
	return l
}

// H1: kinds that are none, wherever they stand.
func TestNoKind(t *testing.T) {
	for _, kind := range []int{-1 << 63, -1, 0, api.NodeAgain + 1, 1<<32 + 1, 1<<63 - 1} {
		wrongTree(t, node(kind), api.ErrKind)
		wrongTree(t, node(kind, a, b), api.ErrKind)
		wrongTree(t, api.Node{Kind: kind, Fold: true, Set: setOf(2, 1).Set}, api.ErrKind)
		wrongTree(t, row(a, node(kind)), api.ErrKind)
		wrongTree(t, repeat(0, 1, 1, group(1, node(kind))), api.ErrKind)
	}
	for _, n := range right() {
		wrongTree(t, n, api.OK)
	}
}

// H1: fields that a kind does not name.
func TestFields(t *testing.T) {
	fields := map[string]func(n *api.Node){
		"Set":    func(n *api.Node) { n.Set = setOf('x', 'y').Set },
		"Number": func(n *api.Node) { n.Number = 1 },
		"Least":  func(n *api.Node) { n.Least = 1 },
		"Most":   func(n *api.Node) { n.Most = 5 },
		"Way":    func(n *api.Node) { n.Way = 1 },
		"Fold":   func(n *api.Node) { n.Fold = true },
	}
	named := map[int]string{api.NodeSet: "Set", api.NodeGroup: "Number", api.NodeRepeat: "Least Most Way", api.NodeAgain: "Number Fold"}
	for _, n := range append(right(), again(1, false)) {
		for name, put := range fields {
			m := n
			put(&m)
			want := api.ErrForm
			if strings.Contains(named[n.Kind], name) {
				want = api.OK
			}
			tree, groups := m, 0
			if n.Kind == api.NodeAgain {
				tree, groups = row(group(1, a), m), 1
			} else if n.Kind == api.NodeGroup {
				groups = 1
			}
			isWrong(t, api.Pattern{Tree: tree, Groups: groups}, want)
		}
		m := n
		if n.Kind != api.NodeSet {
			m.Set = []api.Range{}
		}
		if len(n.Kids) == 0 {
			m.Kids = []api.Node{}
		}
		wrongTree(t, row(group(1, m), b), map[bool]api.Errno{true: api.ErrState, false: api.OK}[n.Kind == api.NodeGroup])
	}
	wrongTree(t, api.Node{Kind: api.NodeEmpty, Most: -1}, api.ErrForm)
	wrongTree(t, api.Node{Kind: api.NodeSet, Number: -1}, api.ErrForm)
	wrongTree(t, api.Node{Kind: api.NodeSet, Set: setOf(2, 1).Set, Way: 1}, api.ErrForm)
}

// H1: how many Kids, and which.
func TestKids(t *testing.T) {
	for _, n := range append(right(), again(1, false)) {
		for count := range 4 {
			m := n
			m.Kids = nil
			for range count {
				m.Kids = append(m.Kids, a)
			}
			ok := count == 0
			if n.Kind == api.NodeRow || n.Kind == api.NodeEither {
				ok = count >= 2
			} else if n.Kind >= api.NodeGroup && n.Kind <= api.NodeNotBehind {
				ok = count == 1
			}
			want := api.ErrForm
			if ok {
				want = api.OK
			}
			tree := m
			if n.Kind == api.NodeAgain {
				tree = row(group(1, a), m)
			}
			wrongTree(t, tree, want)
		}
	}
	wrongTree(t, row(a, row(a, b)), api.ErrForm)
	wrongTree(t, row(row(a, b), a), api.ErrForm)
	wrongTree(t, row(a, empty), api.ErrForm)
	wrongTree(t, row(empty, a, b), api.ErrForm)
	wrongTree(t, row(a, either(a, b)), api.OK)
	wrongTree(t, row(a, group(1, row(a, b))), api.OK)
	wrongTree(t, either(a, either(a, b)), api.ErrForm)
	wrongTree(t, either(either(a, b), a, b), api.ErrForm)
	wrongTree(t, either(a, row(a, b), empty), api.OK)
	wrongTree(t, repeat(0, 1, 1, empty), api.OK)
	wrongTree(t, group(1, repeat(0, 1, 1, row(a, row(a, b)))), api.ErrForm)
	// A Kid that may not stand there is told of the one above it, ahead of what else is wrong in it.
	wrongTree(t, row(node(99), empty), api.ErrForm)
	wrongTree(t, row(a, node(api.NodeRow)), api.ErrForm)
	wrongTree(t, either(node(99), node(api.NodeEither)), api.ErrForm)
}

// H1: sets, repeats and ways.
func TestValues(t *testing.T) {
	wrongTree(t, setOf(2, 1), api.ErrRange)
	wrongTree(t, setOf(-1, 1), api.ErrRange)
	wrongTree(t, setOf(0, api.MaxPoint+1), api.ErrRange)
	wrongTree(t, setOf(5, 6, 7, 8), api.ErrState)
	wrongTree(t, setOf(5, 6, 1, 2), api.ErrState)
	wrongTree(t, setOf(5, 6, 3, 2), api.ErrRange)
	wrongTree(t, api.Node{Kind: api.NodeSet, Set: make([]api.Range, api.MaxRanges+1)}, api.ErrMany)
	for _, c := range []struct {
		least, most int
		err         api.Errno
	}{
		{0, -1, api.OK}, {0, 0, api.OK}, {100, -1, api.OK}, {100, 100, api.OK}, {0, 100, api.OK}, {1, 2, api.OK},
		{-1, -1, api.ErrRange}, {-1, 5, api.ErrRange}, {101, -1, api.ErrRange}, {101, 101, api.ErrRange}, {0, 101, api.ErrRange}, {0, -2, api.ErrRange}, {2, 1, api.ErrRange}, {1, 0, api.ErrRange}, {100, 99, api.ErrRange}, {-1 << 63, 1<<63 - 1, api.ErrRange}, {1<<63 - 1, -1, api.ErrRange}, {0, -1 << 63, api.ErrRange},
	} {
		wrongTree(t, repeat(c.least, c.most, 1, a), c.err)
		for _, way := range []int{-1 << 63, -1, 0, 4, 1<<32 + 1} {
			err := c.err
			if err == api.OK {
				err = api.ErrKind
			}
			wrongTree(t, repeat(c.least, c.most, way, a), err)
		}
	}
}

// H1: numbers of groups, in the order in which they begin.
func TestNumbers(t *testing.T) {
	wrongTree(t, row(group(1, group(2, a)), group(3, b)), api.OK)
	wrongTree(t, row(group(1, group(3, a)), group(2, b)), api.ErrState)
	wrongTree(t, group(0, a), api.ErrState)
	wrongTree(t, group(2, a), api.ErrState)
	wrongTree(t, group(-1, a), api.ErrState)
	wrongTree(t, row(group(1, a), group(1, a)), api.ErrState)
	wrongTree(t, row(group(1, a), group(3, a)), api.ErrState)
	wrongTree(t, group(2, group(1, a)), api.ErrState)
	wrongTree(t, either(node(api.NodeNotAhead, group(1, a)), repeat(0, 0, 1, group(2, a))), api.OK)
	many := func(n int) api.Node {
		out := node(api.NodeEither, empty)
		for i := range n {
			out.Kids = append(out.Kids, group(i+1, a))
		}
		return out
	}
	wrongTree(t, many(api.MaxGroups), api.OK)
	wrongTree(t, many(api.MaxGroups+1), api.ErrMany)
	isWrong(t, api.Pattern{Tree: many(api.MaxGroups + 1)}, api.ErrMany)
	isWrong(t, api.Pattern{Tree: many(api.MaxGroups), Groups: api.MaxGroups + 1}, api.ErrState)
	for _, groups := range []int{-1 << 63, -1, 0, 1, 3, 1<<32 + 2} {
		isWrong(t, api.Pattern{Tree: many(2), Groups: groups}, api.ErrState)
	}
	isWrong(t, api.Pattern{Tree: a, Groups: 1}, api.ErrState)
	for _, number := range []int{-1 << 63, -1, 0, 2, 1<<32 + 1} {
		wrongTree(t, again(number, false), api.ErrNone)
		wrongTree(t, row(group(1, a), again(number, true)), api.ErrNone)
		wrongTree(t, row(again(1, true), group(1, a), again(number, false)), api.ErrNone)
		isWrong(t, api.Pattern{Tree: row(group(1, a), again(number, true)), Groups: 2}, api.ErrState)
	}
}

// H1: names, and which of their errors comes first.
func TestWrongNames(t *testing.T) {
	tree := row(group(1, a), group(2, a), group(3, a))
	told := func(want api.Errno, names ...api.Name) {
		t.Helper()
		isWrong(t, api.Pattern{Tree: tree, Groups: 3, Names: names}, want)
		isWrong(t, api.Pattern{Tree: row(tree.Kids[0], tree.Kids[1], tree.Kids[2], again(4, false)), Groups: 3, Names: names}, api.ErrNone)
		isWrong(t, api.Pattern{Tree: tree, Groups: 2, Names: names}, api.ErrState)
	}
	told(api.OK)
	told(api.OK, api.Name{Text: "x", Number: 1}, api.Name{Text: "y", Number: 2}, api.Name{Text: "X", Number: 3})
	told(api.OK, api.Name{Text: "x", Number: 1}, api.Name{Text: "y", Number: 3})
	for _, number := range []int{-1 << 63, -1, 0, 4, 1<<32 + 1} {
		told(api.ErrNone, api.Name{Text: "x", Number: number})
		told(api.ErrNone, api.Name{Text: "x", Number: 1}, api.Name{Text: "y", Number: number})
		told(api.ErrNone, api.Name{Text: "1", Number: 1}, api.Name{Text: "1", Number: 1}, api.Name{Text: "", Number: number})
	}
	for _, s := range []string{"", "1", "a-b", "é", "a>", "a\x00", strings.Repeat("a", 21)} {
		told(api.ErrForm, api.Name{Text: s, Number: 1})
		told(api.ErrForm, api.Name{Text: "x", Number: 2}, api.Name{Text: "x", Number: 1}, api.Name{Text: s, Number: 1})
	}
	told(api.ErrTwice, api.Name{Text: "x", Number: 1}, api.Name{Text: "x", Number: 2})
	told(api.ErrTwice, api.Name{Text: "x", Number: 1}, api.Name{Text: "y", Number: 1})
	told(api.ErrTwice, api.Name{Text: "x", Number: 1}, api.Name{Text: "y", Number: 2}, api.Name{Text: "x", Number: 3})
	told(api.ErrTwice, api.Name{Text: "x", Number: 3}, api.Name{Text: "y", Number: 2}, api.Name{Text: "z", Number: 3})
	told(api.ErrTwice, api.Name{Text: "x", Number: 2}, api.Name{Text: "y", Number: 1}, api.Name{Text: "x", Number: 3})
	told(api.ErrState, api.Name{Text: "x", Number: 2}, api.Name{Text: "y", Number: 1})
	told(api.ErrState, api.Name{Text: "x", Number: 1}, api.Name{Text: "y", Number: 3}, api.Name{Text: "z", Number: 2})
	lots := make([]api.Name, 1<<20)
	for i := range lots {
		lots[i] = api.Name{Text: "x", Number: 1 + i%3}
	}
	if err := show.Check(api.Pattern{Tree: tree, Groups: 3, Names: lots}); err != api.ErrTwice {
		t.Errorf("lots of names: %d", err)
	}
}

// H1: which of several errors comes first: all nodes, one by one, ahead of what is told of all.
func TestOrder(t *testing.T) {
	noKind, noForm, noSet, noRange, noWay, noNumber, noGroup := node(0), node(api.NodeAtomic), setOf(5, 6, 7, 8), repeat(2, 1, 0, a), repeat(1, 1, 0, a), group(7, a), again(9, false)
	told := map[api.Errno][]api.Node{api.ErrKind: {noKind, noWay}, api.ErrForm: {noForm}, api.ErrState: {noSet, noNumber}, api.ErrRange: {noRange}}
	for err, first := range told {
		for _, m := range first {
			wrongTree(t, row(noGroup, m, noGroup), err)
			for _, second := range told {
				for _, n := range second {
					isWrong(t, api.Pattern{Tree: either(m, n), Groups: 77, Names: []api.Name{{}}}, err)
					isWrong(t, api.Pattern{Tree: row(repeat(0, 1, 1, m), n), Groups: 77}, err)
				}
			}
			wrongTree(t, repeat(2, 1, 0, m), api.ErrRange)
			wrongTree(t, repeat(1, 1, 0, m), api.ErrKind)
			wrongTree(t, group(7, m), api.ErrState)
			wrongTree(t, api.Node{Kind: api.NodeGroup, Fold: true, Kids: []api.Node{m}}, api.ErrForm)
			wide := node(api.NodeEither, m)
			for range api.MaxNodes {
				wide.Kids = append(wide.Kids, a)
			}
			wrongTree(t, wide, api.ErrMany)
		}
	}
	isWrong(t, api.Pattern{Tree: noGroup, Groups: 9}, api.ErrState)
	isWrong(t, api.Pattern{Tree: noGroup, Names: []api.Name{{}}}, api.ErrNone)
}
