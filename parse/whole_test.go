package parse_test

import (
	"slices"
	"strings"
	"testing"
	"unsafe"

	"thicket/api"
	"thicket/bracket"
	"thicket/fold"
	"thicket/parse"
	"thicket/set"
	"thicket/token"
)

// frame of a TokenOpen that is not closed yet, or of the whole pattern: what stands in it, branch by branch, and how it was folded ahead of it.
type frame struct {
	node     api.Node
	branches [][]api.Node
	outside  bool
}

// teller reads a pattern once more, with a stack of frames in place of calls, and makes the tree simple only behind all that.
type teller struct {
	dialect int
	l       []int
	folded  bool
	stack   []frame
	last    []int // kinds of tokens, since the last one that was no TokenRepeat, with that
	groups  int
	names   map[string]int
	order   []api.Name
	agains  []int    // where each stands
	wanted  []string // names that agains ask for, or ""
}

func throw(err api.Errno, at int) { panic(api.Fault{Err: err, At: at}) }

func (e *teller) top() *frame { return &e.stack[len(e.stack)-1] }

func (e *teller) push(n api.Node) {
	b := e.top().branches
	b[len(b)-1] = append(b[len(b)-1], n)
}

func (e *teller) set(l []api.Range, turned bool) {
	if e.folded {
		l = must(set.Fold(l))
	}
	if turned {
		l = must(set.Less(must(fold.Class("any")), l))
	}
	e.push(api.Node{Kind: api.NodeSet, Set: l})
}

func (e *teller) open(t api.Token, at int) {
	if len(e.stack) > api.MaxDeep || t.Number == api.NodeGroup && e.groups == api.MaxGroups {
		throw(api.ErrMany, at)
	}
	f := frame{node: api.Node{Kind: t.Number}, branches: make([][]api.Node, 1), outside: e.folded}
	if t.Number == api.NodeGroup {
		e.groups++
		f.node.Number = e.groups
		if t.Text != "" && e.names[t.Text] != 0 {
			throw(api.ErrTwice, at)
		}
		if t.Text != "" {
			e.names[t.Text] = e.groups
			e.order = append(e.order, api.Name{Text: t.Text, Number: e.groups})
		}
	}
	if t.Fold != 0 {
		e.folded = t.Fold == 1
	}
	e.stack = append(e.stack, f)
}

func (e *teller) repeat(t api.Token, at int) {
	b := e.top().branches
	pieces := b[len(b)-1]
	if len(pieces) == 0 || e.last[0] == api.TokenOption {
		throw(api.ErrForm, at)
	}
	if len(e.last) > 4 {
		throw(api.ErrMany, at)
	}
	pieces[len(pieces)-1] = api.Node{Kind: api.NodeRepeat, Least: t.Least, Most: t.Most, Way: t.Way, Kids: []api.Node{pieces[len(pieces)-1]}}
}

func (e *teller) again(t api.Token, at int) {
	number := t.Number
	if number < 0 {
		number = e.groups + 1 + number
		if number < 1 {
			throw(api.ErrNone, at)
		}
	}
	e.push(api.Node{Kind: api.NodeAgain, Number: number, Least: len(e.agains), Fold: e.folded})
	e.agains = append(e.agains, at)
	e.wanted = append(e.wanted, t.Text)
}

// take a token, and tell where the next one begins.
func (e *teller) take(at int) int {
	t, next, err := token.Next(e.dialect, e.l, at)
	if err != api.OK {
		throw(err, at)
	}
	switch t.Kind {
	case api.TokenPoint:
		e.set(points(t.Number), false)
	case api.TokenAny:
		e.push(api.Node{Kind: api.NodeSet, Set: notNewline})
	case api.TokenClass:
		e.set(must(fold.Class(t.Text)), t.Not)
	case api.TokenSet:
		l, behind, fault := bracket.Parse(e.dialect, e.l, next, e.folded)
		if fault.Err != api.OK {
			throw(fault.Err, fault.At)
		}
		e.push(api.Node{Kind: api.NodeSet, Set: l})
		next = behind
	case api.TokenLook:
		e.push(api.Node{Kind: t.Number})
	case api.TokenAgain:
		e.again(t, at)
	case api.TokenOption:
		e.folded = t.Fold == 1
		e.push(api.Node{Kind: api.NodeEmpty})
	case api.TokenRepeat:
		e.repeat(t, at)
	case api.TokenBar:
		e.top().branches = append(e.top().branches, nil)
	case api.TokenOpen:
		e.open(t, at)
	case api.TokenClose:
		if len(e.stack) == 1 {
			throw(api.ErrForm, at)
		}
		e.close()
	}
	if t.Kind != api.TokenRepeat {
		e.last = nil
	}
	e.last = append(e.last, t.Kind)
	return next
}

// close a frame: all of it is one node in the frame around it, simple or not.
func (e *teller) close() {
	f := *e.top()
	e.stack = e.stack[:len(e.stack)-1]
	e.folded = f.outside
	f.node.Kids = []api.Node{f.either()}
	e.push(f.node)
}

func (f frame) either() api.Node {
	out := api.Node{Kind: api.NodeEither}
	for _, b := range f.branches {
		out.Kids = append(out.Kids, api.Node{Kind: api.NodeRow, Kids: b})
	}
	return out
}

// simple makes of rows and eithers of any number what they are, and of NodeEmpty with a Kid that one; and settles agains.
func (e *teller) simple(n api.Node) api.Node {
	var kids []api.Node
	for _, kid := range n.Kids {
		kid = e.simple(kid)
		switch {
		case n.Kind == kid.Kind && (n.Kind == api.NodeRow || n.Kind == api.NodeEither):
			kids = append(kids, kid.Kids...)
		case n.Kind == api.NodeRow && kid.Kind == api.NodeEmpty:
		default:
			kids = append(kids, kid)
		}
	}
	n.Kids = kids
	bare := n.Kind == api.NodeRow || n.Kind == api.NodeEither || n.Kind == api.NodeEmpty
	if bare && len(kids) == 1 {
		return kids[0]
	}
	if bare && len(kids) == 0 {
		return api.Node{Kind: api.NodeEmpty}
	}
	if n.Kind == api.NodeAgain {
		if name := e.wanted[n.Least]; name != "" {
			n.Number = e.names[name]
		}
		n.Least = 0
	}
	return n
}

func (e *teller) settle() {
	var look func(n api.Node)
	numbers := make([]int, len(e.agains))
	look = func(n api.Node) {
		if n.Kind == api.NodeAgain {
			numbers[n.Least] = n.Number
		}
		for _, kid := range n.Kids {
			look(kid)
		}
	}
	look(e.stack[0].either())
	for i, at := range e.agains {
		number := numbers[i]
		if e.wanted[i] != "" {
			number = e.names[e.wanted[i]]
		}
		if number < 1 || number > e.groups {
			throw(api.ErrNone, at)
		}
	}
}

func tellOnceMore(dialect int, l []int, folded bool) (p api.Pattern, fault api.Fault) {
	defer func() {
		if wrong := recover(); wrong != nil {
			p, fault = api.Pattern{}, wrong.(api.Fault)
		}
	}()
	e := &teller{dialect: dialect, l: l, folded: folded, stack: []frame{{branches: make([][]api.Node, 1)}}, names: map[string]int{}}
	for at := 0; at < len(l); {
		at = e.take(at)
	}
	if len(e.stack) > 1 {
		throw(api.ErrForm, len(l))
	}
	e.settle()
	return api.Pattern{Tree: e.simple(e.stack[0].either()), Groups: e.groups, Names: e.order}, api.Fault{}
}

func same(a, b api.Node) bool {
	return a.Kind == b.Kind && a.Number == b.Number && a.Least == b.Least && a.Most == b.Most && a.Way == b.Way && a.Fold == b.Fold && slices.Equal(a.Set, b.Set) && slices.EqualFunc(a.Kids, b.Kids, same)
}

// eachText hands on all texts of up to so many pieces.
func eachText(pieces []string, most int, take func(s string)) {
	var longer func(s string, left int)
	longer = func(s string, left int) {
		take(s)
		for i := 0; left > 0 && i < len(pieces); i++ {
			longer(s+pieces[i], left-1)
		}
	}
	longer("", most)
}

func heldAgainst(t *testing.T, dialect int, s string) {
	for _, folded := range []bool{false, true} {
		l := pts(s)
		p, fault := parse.Parse(dialect, l, folded)
		want, wrong := tellOnceMore(dialect, l, folded)
		if fault != wrong || !same(p.Tree, want.Tree) || p.Groups != want.Groups || !slices.Equal(p.Names, want.Names) {
			t.Fatalf("dialect %d, %q, folded %v: %v %s %d %v, must be %v %s %d %v", dialect, s, folded, fault, text(p.Tree), p.Groups, p.Names, wrong, text(want.Tree), want.Groups, want.Names)
		}
	}
}

// G1 to G4: all patterns of some pieces, told here once more.
func TestAllShort(t *testing.T) {
	for _, c := range []struct {
		dialect int
		pieces  string
		most    int
	}{
		{api.DialectRuby, `a | ( ) (?: (?i: (?-i) (?i) * (?<x> \k<x> \2 \k<-1> [k] \D (?> ^ \q`, 3},
		{api.DialectRuby, `a | ( ) (?: (?i) * \1`, 5},
		{api.DialectRuby, `b | (?: ) *`, 7},
		{api.DialectRuby, `(?<x> (?<y> ) \k<y> \k<-2> | +`, 5},
		{api.DialectRuby, `(?i: (?-i: (?-i) ) a | [`, 5},
		{api.DialectPosix, `a | ( ) * {2} [] ]`, 5},
		{api.DialectEmacs, `a \| \( \) * \{2\} \2 \1`, 5},
		{api.DialectEmacs, `| ( ) [ ] \W \`, 5},
	} {
		eachText(strings.Fields(c.pieces), c.most, func(s string) { heldAgainst(t, c.dialect, s) })
	}
}

// grower of patterns: of what they are made in a dialect, and numbers to choose by, the same each time.
type grower struct {
	atoms, opens, repeats []string
	bar, end              string
	seed                  uint64
}

func (g *grower) draw(n int) int {
	g.seed = g.seed*6364136223846793005 + 1442695040888963407
	return int(g.seed >> 33 % uint64(n))
}

func (g *grower) oneOf(l []string) string { return l[g.draw(len(l))] }

// pattern whose parts are so deep at most.
func (g *grower) pattern(deep int) string {
	s := ""
	for range g.draw(5) {
		switch kind := g.draw(8); {
		case kind == 0:
			s += g.bar
			continue
		case kind < 4 && deep > 0:
			s += g.oneOf(g.opens) + g.pattern(deep-1) + g.end
		default:
			s += g.oneOf(g.atoms)
		}
		for g.draw(3) == 0 {
			s += g.oneOf(g.repeats)
		}
	}
	return s
}

// broken pattern: at one place something is left out, or comes twice.
func (g *grower) broken(s string) string {
	from := g.draw(len(s) + 1)
	to := from + g.draw(min(len(s)-from+1, 4))
	if g.draw(2) == 0 {
		return s[:from] + s[to:]
	}
	return s[:to] + s[from:]
}

// G1 to G4: long patterns, right and wrong ones, so that limits are met too.
func TestManyLong(t *testing.T) {
	growers := map[int]*grower{
		api.DialectRuby:  {atoms: strings.Fields(`a k B \x41 . ^ \b [ac-d] [^b] (?i) (?-i) () \1 \k<-1> \k<y> \4`), opens: strings.Fields(`( ( (?: (?: (?i: (?-i: (?> (?! (?<= (?<x> (?<y>`), repeats: strings.Fields("* +? {2,}+ {0}"), bar: "|", end: ")"},
		api.DialectPosix: {atoms: strings.Fields(`a k . $ [a] [^b] () \(`), opens: []string{"("}, repeats: strings.Fields("* + ? {3}"), bar: "|", end: ")"},
		api.DialectEmacs: {atoms: strings.Fields("a k . \\` [a] ( \\(\\) \\1 \\3"), opens: []string{`\(`}, repeats: strings.Fields(`* + ? \{3\}`), bar: `\|`, end: `\)`},
	}
	right, wrong := 0, map[api.Errno]int{}
	for i := range 30000 {
		dialect := dialects[i%3]
		g := growers[dialect]
		s := g.pattern(30)
		if g.draw(3) == 0 {
			s = g.broken(s)
		}
		if len(s) > api.MaxPattern {
			continue
		}
		heldAgainst(t, dialect, s)
		if _, fault := parse.Parse(dialect, pts(s), false); fault.Err == api.OK {
			right++
		} else {
			wrong[fault.Err]++
		}
	}
	if right < 5000 || wrong[api.ErrForm] < 1000 || wrong[api.ErrMany] < 100 || wrong[api.ErrTwice] < 100 || wrong[api.ErrNone] < 100 {
		t.Errorf("too few of a kind: %d are right, wrong are %v", right, wrong)
	}
}

// lists of a tree, with their spare room, as places in memory.
func lists(n api.Node, take func(from, to uintptr)) {
	if s := n.Set[:cap(n.Set)]; len(s) > 0 {
		from := uintptr(unsafe.Pointer(&s[0]))
		take(from, from+uintptr(len(s))*unsafe.Sizeof(s[0]))
	}
	if k := n.Kids[:cap(n.Kids)]; len(k) > 0 {
		from := uintptr(unsafe.Pointer(&k[0]))
		take(from, from+uintptr(len(k))*unsafe.Sizeof(k[0]))
	}
	for _, kid := range n.Kids {
		lists(kid, take)
	}
}

// P2: what is handed in is only read, its spare room too; an answer is new memory, and no two lists of it share any.
func TestMemory(t *testing.T) {
	full := pts(`xx(?<x>a|b)(?:cd|[e-g])(?i)\k<x>h*\d\D..(?:i(?:jk))(?>l|(?:m|n))yy`)
	keep := slices.Clone(full)
	l := full[2 : len(full)-2]
	p, fault := parse.Parse(api.DialectRuby, l, false)
	want := text(p.Tree)
	if fault != (api.Fault{}) || !slices.Equal(full, keep) {
		t.Fatalf("%v, or what was handed in is changed", fault)
	}
	var taken [][2]uintptr
	lists(p.Tree, func(from, to uintptr) {
		for _, o := range taken {
			if from < o[1] && o[0] < to {
				t.Fatal("two lists share memory")
			}
		}
		taken = append(taken, [2]uintptr{from, to})
	})
	q, _ := parse.Parse(api.DialectRuby, l, false)
	lists(q.Tree, func(from, to uintptr) {
		for _, o := range taken {
			if from < o[1] && o[0] < to {
				t.Fatal("two answers share memory")
			}
		}
	})
	clear(full)
	if text(p.Tree) != want || nameText(p.Names) != "x=1" {
		t.Error("what was handed in is kept")
	}
	copy(full, keep)
	clear(p.Tree.Kids[:cap(p.Tree.Kids)])
	clear(p.Names[:cap(p.Names)])
	if !slices.Equal(full, keep) || text(q.Tree) != want || nameText(q.Names) != "x=1" {
		t.Error("an answer is part of something else")
	}
}

// P2, P3: Number only reads, and tells the same each time.
func TestNumberMemory(t *testing.T) {
	names := []api.Name{{Text: "a", Number: 1}, {Text: "b", Number: 2}, {Text: "c", Number: 3}}
	p := api.Pattern{Names: names[:2]}
	for range 2 {
		number, err := parse.Number(p, "b")
		if number != 2 || err != api.OK || names[2].Text != "c" {
			t.Errorf("b: %d %d %v", number, err, names)
		}
		if number, err := parse.Number(p, "c"); number != 0 || err != api.ErrNone {
			t.Errorf("c, behind the list: %d %d", number, err)
		}
	}
}
