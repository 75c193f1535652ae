package facts_test

import (
	"math/big"
	"slices"
	"strings"
	"testing"

	"thicket/api"
	"thicket/facts"
	"thicket/parse"
	"thicket/show"
)

func pts(s string) []int {
	var l []int
	for _, c := range s {
		l = append(l, int(c))
	}
	return l
}

func parsed(t *testing.T, s string) api.Pattern {
	t.Helper()
	p, fault := parse.Parse(api.DialectRuby, pts(s), false)
	if fault != (api.Fault{}) {
		t.Fatalf("%q: %v", s, fault)
	}
	return p
}

func node(kind int, kids ...api.Node) api.Node { return api.Node{Kind: kind, Kids: kids} }

func setOf(ends ...int) api.Node {
	n := api.Node{Kind: api.NodeSet}
	for i := 0; i < len(ends); i += 2 {
		n.Set = append(n.Set, api.Range{From: ends[i], To: ends[i+1]})
	}
	return n
}

func group(number int, kid api.Node) api.Node {
	return api.Node{Kind: api.NodeGroup, Number: number, Kids: []api.Node{kid}}
}

func repeat(least, most int, kid api.Node) api.Node {
	return api.Node{Kind: api.NodeRepeat, Least: least, Most: most, Way: api.WayGreedy, Kids: []api.Node{kid}}
}

func again(number int) api.Node { return api.Node{Kind: api.NodeAgain, Number: number} }

type wanted struct {
	pattern     string
	least, most int
	plain       bool
}

func factsOf(t *testing.T, l []wanted) {
	t.Helper()
	for _, c := range l {
		f, err := facts.Of(parsed(t, c.pattern).Tree)
		if f != (api.Facts{Least: c.least, Most: c.most, Plain: c.plain}) || err != api.OK {
			t.Errorf("%q: %v %d, must be %v", c.pattern, f, err, c)
		}
	}
}

// I1: each kind.
func TestKinds(t *testing.T) {
	factsOf(t, []wanted{
		{"", 0, 0, true},
		{"a", 1, 1, true},
		{`[^\x{0}-\x{10ffff}]`, 1, 1, true},
		{"abc", 3, 3, true},
		{"ab*c?", 1, -1, true},
		{"a|bcd|ef", 1, 3, true},
		{"ab|", 0, 2, true},
		{"ab|c*", 0, -1, true},
		{"a*|bc|d*", 0, -1, true},
		{"(ab)", 2, 2, true},
		{"(?>ab|c)", 1, 2, true},
		{"a{2,5}", 2, 5, true},
		{"a{2,5}?", 2, 5, true},
		{"a{2,5}+", 2, 5, true},
		{"(?:ab|c){2,5}", 2, 10, true},
		{"a{3,}", 3, -1, true},
		{"a{0}", 0, 0, true},
		{"a*{0}", 0, 0, true},
		{"(?:a*){2,3}", 0, -1, true},
		{"(?:)*", 0, 0, true},
		{"(?:){5,}", 0, 0, true},
		{"(?:){100}{100}{100}{100}a", 1, 1, true},
		{`(a)\1`, 1, -1, false},
		{`(?i)(a)\1`, 1, -1, false},
		{`(a)(?:\1){0}`, 1, 1, false},
		{`(a)(?:\1){2}`, 1, -1, false},
		{"(?=abc)", 0, 0, false},
		{"(?!abc)", 0, 0, false},
		{"(?<=abc)", 0, 0, false},
		{"(?<!abc)", 0, 0, false},
		{"(?<=a*)b", 1, 1, false},
		{"(?=a*)b", 1, 1, false},
		{"(?=a)*", 0, 0, false},
	})
	for _, look := range []string{"^", "$", `\A`, `\z`, `\b`, `\B`} {
		factsOf(t, []wanted{{look, 0, 0, false}, {look + "a", 1, 1, false}, {"a|" + look, 0, 1, false}, {"(?:" + look + "){0}", 0, 0, false}, {"(?>(" + look + "b*))", 0, -1, false}})
	}
}

// I1: a million points, and more.
func TestBounds(t *testing.T) {
	million := "a{100}{100}{100}"
	factsOf(t, []wanted{
		{million, 1000000, 1000000, true},
		{"a{100}{100}{99}", 990000, 990000, true},
		{"a{100}{100}{99}b{100}{99}c{100}", 1000000, 1000000, true},
		{"a{100}{100}{99}b{100}{99}c{100}d", 1000000, -1, true},
		{"a{100}{100}{99}b{100}{99}c{100}d?", 1000000, -1, true},
		{million + "{100}", 1000000, -1, true},
		{million + "{1}", 1000000, 1000000, true},
		{million + "{2}", 1000000, -1, true},
		{million + "{0,2}", 0, -1, true},
		{"(?:" + million + "{2}){0}", 0, 0, true},
		{million + "{2}|a", 1, -1, true},
		{million + "|a", 1, 1000000, true},
		{million + "|b{100}{100}{100}c?", 1000000, -1, true},
		{"(?:" + million + "){100}" + "(?:" + million + "){100}", 1000000, -1, true},
		{"(" + strings.Repeat("a", 11) + "){100}{100}{100}", 1000000, -1, true},
		{strings.Repeat("(?:", 20) + "aa" + strings.Repeat("){100}{100}", 20), 1000000, -1, true},
	})
}

// tell a tree's facts once more, of numbers without bounds (most nil: no end).
func tell(n api.Node) (least, most *big.Int, plain bool) {
	least, most, plain = big.NewInt(0), big.NewInt(0), true
	for i, kid := range n.Kids {
		l, m, p := tell(kid)
		plain = plain && p
		switch {
		case n.Kind == api.NodeEither && i > 0:
			if l.Cmp(least) < 0 {
				least = l
			}
			if m == nil || most != nil && m.Cmp(most) > 0 {
				most = m
			}
		default:
			least.Add(least, l)
			if m == nil || most == nil {
				most = nil
			} else {
				most.Add(most, m)
			}
		}
	}
	switch {
	case n.Kind == api.NodeSet:
		return big.NewInt(1), big.NewInt(1), true
	case n.Kind == api.NodeAgain:
		return least, nil, false
	case n.Kind == api.NodeRepeat:
		least.Mul(least, big.NewInt(int64(n.Least)))
		if n.Most == 0 || most != nil && most.Sign() == 0 {
			return least, big.NewInt(0), plain
		}
		if n.Most < 0 || most == nil {
			return least, nil, plain
		}
		return least, most.Mul(most, big.NewInt(int64(n.Most))), plain
	case n.Kind >= api.NodeAhead, n.Kind >= api.NodeLineStart && n.Kind <= api.NodeNoWord:
		return big.NewInt(0), big.NewInt(0), false
	}
	return least, most, plain
}

func bounded(least, most *big.Int, plain bool) api.Facts {
	million := big.NewInt(1000000)
	f := api.Facts{Least: 1000000, Most: -1, Plain: plain}
	if least.Cmp(million) < 0 {
		f.Least = int(least.Int64())
	}
	if most != nil && most.Cmp(million) <= 0 {
		f.Most = int(most.Int64())
	}
	return f
}

// grower of trees; it chooses by numbers that are the same each time.
type grower struct {
	seed   uint64
	groups int
}

func (g *grower) draw(n int) int {
	g.seed = g.seed*6364136223846793005 + 1442695040888963407
	return int(g.seed >> 33 % uint64(n))
}

func (g *grower) node(deep int, but ...int) api.Node {
	kind := 1 + g.draw(api.NodeAgain)
	if g.draw(3) > 0 {
		kind = []int{api.NodeRow, api.NodeEither, api.NodeRepeat, api.NodeRepeat}[g.draw(4)]
	}
	if deep == 0 || slices.Contains(but, kind) || kind == api.NodeGroup && g.groups == api.MaxGroups || kind == api.NodeAgain && g.groups == 0 {
		return setOf('a', 'a'+g.draw(5))
	}
	n := api.Node{Kind: kind}
	switch kind {
	case api.NodeRow, api.NodeEither:
		for range 2 + g.draw(2) {
			n.Kids = append(n.Kids, g.node(deep-1, kind, api.NodeEmpty))
		}
	case api.NodeSet:
		return setOf('a', 'b')
	case api.NodeAgain:
		n.Number = 1 + g.draw(g.groups)
	case api.NodeGroup:
		g.groups++
		n.Number = g.groups
	case api.NodeRepeat:
		n.Least, n.Way = []int{0, 1, 2, 10, 99, 100}[g.draw(6)], 1+g.draw(3)
		n.Most = max(n.Least, g.draw(api.MaxTimes+1)*g.draw(3)/2)
		if n.Most > api.MaxTimes || g.draw(6) == 0 {
			n.Most = -1
		}
	}
	if kind >= api.NodeGroup && kind <= api.NodeNotBehind {
		n.Kids = []api.Node{g.node(deep - 1)}
	}
	return n
}

func isWide(n api.Node) bool {
	if n.Kind == api.NodeBehind || n.Kind == api.NodeNotBehind {
		if _, most, _ := tell(n.Kids[0]); most == nil || most.Cmp(big.NewInt(api.MaxBehind)) > 0 {
			return true
		}
	}
	return slices.ContainsFunc(n.Kids, isWide)
}

// I1, I2: many trees, as they are told once more.
func TestManyTrees(t *testing.T) {
	g := &grower{seed: 3}
	great, wide := 0, 0
	for i := range 20000 {
		g.groups = 0
		n := g.node(1 + i%8)
		p := api.Pattern{Tree: n, Groups: g.groups}
		if err := show.Check(p); err == api.ErrMany {
			continue
		} else if err != api.OK {
			t.Fatalf("%v: %d", n, err)
		}
		want := bounded(tell(n))
		if f, err := facts.Of(n); f != want || err != api.OK {
			t.Fatalf("%v: %v %d, must be %v", n, f, err, want)
		}
		if want.Least == 1000000 {
			great++
		}
		wantErr := api.OK
		if isWide(n) {
			wantErr = api.ErrWidth
			wide++
		}
		if err := facts.Check(p); err != wantErr {
			t.Fatalf("%v: %d, must be %d", n, err, wantErr)
		}
	}
	if great < 50 || wide < 500 {
		t.Errorf("too few are great, or wide: %d, %d", great, wide)
	}
}

// I2: what looks back, and how far that may be.
func TestCheck(t *testing.T) {
	for s, want := range map[string]api.Errno{
		"":                                  api.OK,
		"a*":                                api.OK,
		"(?=a*)":                            api.OK,
		"(?!a*)":                            api.OK,
		"(?<=a)":                            api.OK,
		"(?<!a)":                            api.OK,
		"(?<=)":                             api.OK,
		"(?<=a{100})":                       api.OK,
		"(?<!a{1,100})":                     api.OK,
		"(?<=a{100}b)":                      api.ErrWidth,
		"(?<!a{100}b?)":                     api.ErrWidth,
		"(?<=a{51}{2})":                     api.ErrWidth,
		"(?<=a{50}{2})":                     api.OK,
		"(?<=a*)":                           api.ErrWidth,
		"(?<!a+)":                           api.ErrWidth,
		"(?<=a*{0})":                        api.OK,
		"(?<=a{100}{100}{100}{100})":        api.ErrWidth,
		"(?<=(?>a{100}{100}{100}{100}){0})": api.OK,
		`(a)(?<=\1)`:                        api.ErrWidth,
		`(a)(?<=(?:\1){0})`:                 api.OK,
		`(?<=(a)(b))\2`:                     api.OK,
		`(x)(?<=(a)(b))\2`:                  api.OK,
		"(?<=(?=a*)b)":                      api.OK,
		"(?<=(?<=a*)b)":                     api.ErrWidth,
		"(?<=(?<=a{100})b{100})":            api.OK,
		"(?=(?<!a*))":                       api.ErrWidth,
		"(?:x|((?>y(?<=a|b*)z)))*":          api.ErrWidth,
		"(?:x|((?>y(?<=a|bcd|)z)))*":        api.OK,
		"(?<=a)(?<=a|b{3})(?<!c*)":          api.ErrWidth,
		"(?:(?<=a*)){0}":                    api.ErrWidth,
		"(?<=" + longRow(100) + ")":         api.OK,
		"(?<!" + longRow(101) + ")":         api.ErrWidth,
		"(?<=" + longRow(100) + "|a{99})":   api.OK,
	} {
		if err := facts.Check(parsed(t, s)); err != want {
			t.Errorf("%q: %d, must be %d", s, err, want)
		}
	}
}

func longRow(n int) string { return strings.Repeat("a", n) }

// I2: what Check of trees as patterns says comes first.
func TestCheckWrong(t *testing.T) {
	wide := parsed(t, "(?<x>a)(?<=b*)")
	for want, change := range map[api.Errno]func(p *api.Pattern){
		api.ErrWidth: func(p *api.Pattern) {},
		api.ErrState: func(p *api.Pattern) { p.Groups = 2 },
		api.ErrNone:  func(p *api.Pattern) { p.Names = []api.Name{{Text: "x", Number: 2}} },
		api.ErrForm:  func(p *api.Pattern) { p.Names = []api.Name{{Text: "1", Number: 1}} },
		api.ErrTwice: func(p *api.Pattern) { p.Names = []api.Name{{Text: "x", Number: 1}, {Text: "x", Number: 1}} },
		api.ErrKind:  func(p *api.Pattern) { p.Tree = node(api.NodeBehind, repeat(0, -1, node(19))) },
		api.ErrRange: func(p *api.Pattern) { p.Tree = node(api.NodeBehind, repeat(0, -1, setOf(2, 1))) },
		api.ErrMany: func(p *api.Pattern) {
			p.Tree = node(api.NodeRow, slices.Repeat([]api.Node{node(api.NodeBehind, repeat(0, -1, setOf()))}, 400)...)
		},
	} {
		p := wide
		change(&p)
		if err := facts.Check(p); err != want {
			t.Errorf("%d, must be %d", err, want)
		}
	}
}

// chain of nodes, each but the last with one Kid.
func chain(nodes int) api.Node {
	n := node(api.NodeEmpty)
	for range nodes - 1 {
		n = node(api.NodeAtomic, n)
	}
	return n
}

func manyGroups(n int) api.Node {
	row := node(api.NodeRow)
	for i := range n {
		row.Kids = append(row.Kids, group(i+1, setOf('a', 'a')))
	}
	return row
}

// I1, I3: errors of a tree, with as many groups as it has, and no names.
func TestWrongTrees(t *testing.T) {
	round := make([]api.Node, 1)
	round[0] = node(api.NodeGroup, round...)
	round[0].Kids = round
	a := setOf('a', 'a')
	for name, c := range map[string]struct {
		n    api.Node
		want api.Errno
	}{
		"no kind":           {api.Node{}, api.ErrKind},
		"a kind too great":  {node(api.NodeAgain + 1), api.ErrKind},
		"no way":            {api.Node{Kind: api.NodeRepeat, Most: 1, Kids: []api.Node{a}}, api.ErrKind},
		"a row of none":     {node(api.NodeRow), api.ErrForm},
		"a row of one":      {node(api.NodeRow, a), api.ErrForm},
		"a row in a row":    {node(api.NodeRow, a, node(api.NodeRow, a, a)), api.ErrForm},
		"no Kid":            {node(api.NodeBehind), api.ErrForm},
		"two Kids":          {node(api.NodeGroup, a, a), api.ErrForm},
		"no field":          {api.Node{Kind: api.NodeEmpty, Fold: true}, api.ErrForm},
		"a wrong set":       {setOf(3, 1), api.ErrRange},
		"no set":            {setOf(1, 2, 3, 4), api.ErrState},
		"a wrong repeat":    {repeat(3, 2, a), api.ErrRange},
		"too often":         {repeat(0, 101, a), api.ErrRange},
		"group 0":           {group(0, a), api.ErrState},
		"group 2":           {group(2, a), api.ErrState},
		"groups 2 and 1":    {group(2, group(1, a)), api.ErrState},
		"group 1 twice":     {node(api.NodeRow, group(1, a), group(1, a)), api.ErrState},
		"too many groups":   {manyGroups(api.MaxGroups + 1), api.ErrMany},
		"no group":          {again(1), api.ErrNone},
		"no such group":     {node(api.NodeRow, group(1, a), again(2)), api.ErrNone},
		"again 0":           {node(api.NodeRow, group(1, a), again(0)), api.ErrNone},
		"too deep":          {chain(10*api.MaxDeep + 2), api.ErrMany},
		"too many nodes":    {node(api.NodeRow, slices.Repeat([]api.Node{a}, api.MaxNodes)...), api.ErrMany},
		"round and round":   {round[0], api.ErrMany},
		"many, and no kind": {node(0, slices.Repeat([]api.Node{a}, api.MaxNodes)...), api.ErrMany},
	} {
		if f, err := facts.Of(c.n); f != (api.Facts{}) || err != c.want {
			t.Errorf("Of, %s: %v %d, must be %d", name, f, err, c.want)
		}
		if l, none, err := facts.First(c.n); len(l) != 0 || none || err != c.want {
			t.Errorf("First, %s: %v %v %d, must be %d", name, l, none, err, c.want)
		}
	}
	for name, n := range map[string]api.Node{
		"wide":        node(api.NodeBehind, repeat(0, -1, a)),
		"all groups":  manyGroups(api.MaxGroups),
		"a group":     group(1, a),
		"again ahead": node(api.NodeRow, again(1), group(1, a)),
		"deep":        chain(10*api.MaxDeep + 1),
		"full":        node(api.NodeRow, slices.Repeat([]api.Node{a}, api.MaxNodes-1)...),
	} {
		if _, err := facts.Of(n); err != api.OK {
			t.Errorf("Of, %s: %d", name, err)
		}
		if _, _, err := facts.First(n); err != api.OK {
			t.Errorf("First, %s: %d", name, err)
		}
	}
}
