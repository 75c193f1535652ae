package code_test

import (
	"slices"
	"strings"
	"testing"

	"thicket/api"
	"thicket/code"
	"thicket/encode"
	"thicket/facts"
	"thicket/fold"
	"thicket/match"
	"thicket/parse"
)

// known is all that a machine knows but for the ways back.
type known struct {
	next, at int
	groups   [2]api.Range
	counters [2]struct{ number, place, ways int }
}

// second machine: it keeps a copy of all that it knew with each way back, and does each operation just as the chapter tells it.
type second struct {
	known
	points []int
	backs  []known
}

func (s *second) fail() bool {
	if len(s.backs) == 0 {
		return false
	}
	s.known = s.backs[len(s.backs)-1]
	s.backs = s.backs[:len(s.backs)-1]
	return true
}

// isWord asks the class, point by point.
func (s *second) isWord(at int) bool {
	word, _ := fold.Class("word")
	return at >= 0 && at < len(s.points) && slices.ContainsFunc(word, func(r api.Range) bool { return r.From <= s.points[at] && s.points[at] <= r.To })
}

func (s *second) looks(kind int) bool {
	start, end := s.at == 0, s.at == len(s.points)
	switch kind {
	case api.NodeLineStart:
		return start || s.points[s.at-1] == 10
	case api.NodeLineEnd:
		return end || s.points[s.at] == 10
	case api.NodeTextStart:
		return start
	case api.NodeTextEnd:
		return end
	case api.NodeWord:
		return s.isWord(s.at-1) != s.isWord(s.at)
	}
	return s.isWord(s.at-1) == s.isWord(s.at)
}

func (s *second) again(g api.Range, fold1 bool) bool {
	if g.From < 0 || s.at+g.To-g.From > len(s.points) {
		return false
	}
	for i := range g.To - g.From {
		p, q := s.points[g.From+i], s.points[s.at+i]
		if orbit, _ := fold.Orbit(p); p != q && !(fold1 && slices.Contains(orbit, q)) {
			return false
		}
	}
	s.at += g.To - g.From
	return true
}

// do an operation: whether it did not fail.
func (s *second) do(op api.Op) bool {
	s.next++
	c := &s.counters[0]
	if op.To == 1 {
		c = &s.counters[1]
	}
	goOn := false
	switch op.Do {
	case api.OpSet:
		if s.at == len(s.points) || !slices.ContainsFunc(op.Set, func(r api.Range) bool { return r.From <= s.points[s.at] && s.points[s.at] <= r.To }) {
			return false
		}
		s.at++
	case api.OpLook:
		return s.looks(op.Kind)
	case api.OpAgain:
		return s.again(s.groups[op.To-1], op.Fold)
	case api.OpJump:
		s.next = op.To
	case api.OpSplit:
		way := s.known
		way.next = op.Other
		s.backs = append(s.backs, way)
		s.next = op.To
	case api.OpSave:
		from := s.counters[op.Other].place
		s.groups[op.To-1] = api.Range{From: from, To: s.at}
		if s.at < from {
			s.groups[op.To-1] = api.Range{From: -1, To: -1}
		}
	case api.OpMark:
		c.place, c.ways = s.at, len(s.backs)
	case api.OpCut:
		for len(s.backs) > c.ways {
			s.backs = s.backs[:len(s.backs)-1]
		}
		if op.Back {
			s.at = c.place
		}
	case api.OpCount:
		c.number = op.Least
	case api.OpMore:
		if c.number < 1000 {
			c.number++
		}
		goOn = c.number < op.Least
	case api.OpUnder:
		goOn = c.number < op.Least
	case api.OpMoved:
		goOn = c.place == s.at
	case api.OpBack:
		if s.at = c.place - c.number; s.at < 0 {
			return false
		}
	case api.OpFail:
		return false
	}
	if goOn {
		s.next = op.Other
	}
	return true
}

func (s *second) run(p api.Program, fuel int) (matches bool, burnt int, err api.Errno) {
	for burnt = 1; burnt <= fuel; burnt++ {
		op := p.Ops[s.next]
		if op.Do == api.OpMatch {
			return true, burnt, api.OK
		}
		if !s.do(op) && !s.fail() {
			return false, burnt, api.OK
		}
	}
	return false, 0, api.ErrFuel
}

// chooser of numbers that are the same each time.
type chooser struct{ seed uint64 }

func (c *chooser) draw(n int) int {
	c.seed = c.seed*6364136223846793005 + 1442695040888963407
	return int(c.seed >> 33 % uint64(n))
}

func (c *chooser) text() []int {
	letters := pts("aaaabbbbckK\u212aé \n-\U0001f600")
	var l []int
	for range c.draw(8) {
		l = append(l, letters[c.draw(len(letters))])
	}
	return l
}

func (c *chooser) set() []api.Range {
	return [][]api.Range{set("a").Set, set("b").Set, anyPoint(), set("ak").Set, {{From: 'b', To: 0x212a}}, nil, anyPoint(), anyPoint()}[c.draw(8)]
}

// target of a jump: mostly one further on, or nearly no program would come to an end.
func (c *chooser) target(at, count int) int {
	if c.draw(6) == 0 {
		return c.draw(count)
	}
	return at + 1 + c.draw(min(4, count-at-1))
}

// op of a program that has so many, at its place there.
func (c *chooser) op(at, count int) api.Op {
	op := api.Op{Do: 1 + c.draw(15)}
	if c.draw(6) == 0 {
		op.Do = api.OpSplit
	}
	target := func() int { return c.target(at, count) }
	for op.Do >= api.OpFail && c.draw(3) > 0 { // fewer ends make longer stories
		op.Do = 1 + c.draw(15)
	}
	switch op.Do {
	case api.OpSet:
		op.Set = c.set()
	case api.OpJump:
		op.To = target()
	case api.OpSplit:
		op.To, op.Other = target(), target()
	case api.OpSave:
		op.To, op.Other = 1+c.draw(2), c.draw(2)
	case api.OpLook:
		op.Kind = api.NodeLineStart + c.draw(6)
	case api.OpAgain:
		op.To, op.Fold = 1+c.draw(2), c.draw(2) == 0
	case api.OpMark, api.OpBack:
		op.To = c.draw(2)
	case api.OpCut:
		op.To, op.Back = c.draw(2), c.draw(2) == 0
	case api.OpCount:
		op.To, op.Least = c.draw(2), c.draw(4)
	case api.OpMore, api.OpUnder:
		op.To, op.Least, op.Other = c.draw(2), c.draw(4), target()
	case api.OpMoved:
		op.To, op.Other = c.draw(2), target()
	}
	return op
}

func (c *chooser) program() api.Program {
	count := 2 + c.draw(18)
	var ops []api.Op
	for at := range count - 1 {
		ops = append(ops, c.op(at, count))
	}
	return program(append(ops, []api.Op{jump(c.draw(count)), fail, done, done, done, done}[c.draw(6)])...)
}

// inBytes is a match whose ends are told in bytes.
func inBytes(from int, s *second, starts []int) api.Match {
	m := api.Match{From: starts[from], To: starts[s.at]}
	for _, g := range s.groups {
		if g.From >= 0 {
			g = api.Range{From: starts[g.From], To: starts[g.To]}
		}
		m.Groups = append(m.Groups, g)
	}
	return m
}

// K1, K3: many programs, whatever they do.
func TestManyPrograms(t *testing.T) {
	c := &chooser{seed: 3}
	ends := map[string]int{}
	for range 300000 {
		p, points, enc, fuel := c.program(), c.text(), 1+c.draw(4), 20+c.draw(200)
		text, err := encode.Encode(enc, points)
		if err != api.OK {
			continue
		}
		starts, _ := encode.Starts(enc, text)
		from := c.draw(len(starts))
		s := &second{points: points, known: known{at: from, groups: [2]api.Range{{From: -1, To: -1}, {From: -1, To: -1}}}}
		ok, burnt, err := s.run(p, fuel)
		want, end := told(api.Match{}, false, burnt, err), "none"
		if ok {
			want, end = told(inBytes(from, s, starts), true, burnt, err), "matched"
		}
		if err != api.OK {
			end = "out of fuel"
		}
		if burnt == 0 || burnt > 8 {
			ends[end]++
		}
		if got := told(code.Run(p, enc, text, starts[from], fuel)); got != want {
			t.Fatalf("%v on %q at %d, fuel %d: %s, must be %s", p, text, starts[from], fuel, got, want)
		}
	}
	if ends["none"] < 3000 || ends["matched"] < 3000 || ends["out of fuel"] < 3000 {
		t.Errorf("too few of some kind: %v", ends)
	}
}

// held holds a program against its pattern, at all places of a text; it tells at how many of them both came to an end. It also asks that a program does not burn many times as much, or fuel would not go as far.
func held(t *testing.T, p api.Pattern, x api.Program, enc int, text string) int {
	t.Helper()
	starts, _ := encode.Starts(enc, text)
	count := 0
	for _, at := range starts {
		m, ok, burnt, err := match.At(p, enc, text, at, 5000)
		if err != api.OK {
			continue
		}
		count++
		n, is, ran, err := code.Run(x, enc, text, at, api.MaxFuel)
		if found(n, is) != found(m, ok) || err != api.OK || ran > 12*burnt+2 {
			t.Fatalf("%v on %q, encoding %d, at %d: %s, burnt %d, error %d; must be %s, burnt %d", p, text, enc, at, found(n, is), ran, err, found(m, ok), burnt)
		}
	}
	return count
}

// madeOf a pattern that is right, or nothing, if what looks back in it has no width.
func madeOf(t *testing.T, p api.Pattern) (api.Program, bool) {
	t.Helper()
	x, err := code.Make(p)
	if want := facts.Check(p); err != want || want != api.OK && want != api.ErrWidth {
		t.Fatalf("%v: error %d, must be %d", p, err, want)
	}
	if err != api.OK {
		return x, false
	}
	if err := code.Check(x); err != api.OK || x.Groups != p.Groups {
		t.Fatalf("%v: %v: error %d", p, x, err)
	}
	return x, true
}

// K4: patterns of each kind.
func TestMade(t *testing.T) {
	for _, c := range []struct{ pattern, text, want string }{
		{"", "a", "0-0"}, {"ab", "abc", "0-2"}, {"ab", "acb", "none"}, {"a|ab|b", "ab", "0-1"}, {"x|y|a", "ab", "0-1"},
		{"(a|ab)c", "abc", "0-3 0-2"}, {"((a)|b)*", "ab", "0-2 1-2 0-1"}, {"(a)b|ac", "ac", "0-2 -"},
		{"a{2,3}", "aaaa", "0-3"}, {"a{2,3}?", "aaaa", "0-2"}, {"a{2,3}+a", "aaa", "none"}, {"a{2,3}a", "aaa", "0-3"}, {"(a){0}", "a", "0-0 -"},
		{"(a*)*", "b", "0-0 -"}, {"(a*)+", "b", "0-0 0-0"}, {"(a*){2,3}", "ab", "0-1 1-1"}, {"(?:|a)+", "aa", "0-2"}, {"(?:|a){2}", "aa", "0-0"},
		{"(?>a|ab)c", "abc", "none"}, {"(?=(ab))a", "ab", "0-1 0-2"}, {"(?!(ab))a", "ac", "0-1 -"}, {"(?!ab)a", "ab", "none"},
		{".(?<=(a|ba))", "ba", "none"}, {"..(?<=(a|ba))", "ba", "0-2 1-2"}, {"..(?<=(ca|ba))", "ba", "0-2 0-2"}, {".(?<!a)", "a", "none"}, {".(?<!aa)", "a", "0-1"},
		{`^\Aa\b$\n\z`, "a\n", "0-2"}, {`a\Bb`, "ab", "0-2"},
		{`(a)\1`, "aA", "none"}, {`(a)(?i:\1)`, "aA", "0-2 0-1"}, {`\1(a)`, "aa", "none"}, {`(?:(a)|b\1)+`, "aba", "0-3 0-1"},
	} {
		p := parsed(t, c.pattern)
		x, _ := madeOf(t, p)
		m, ok, _, err := code.Run(x, api.EncUTF8, c.text, 0, 1000)
		if s := found(m, ok); s != c.want || err != api.OK {
			t.Errorf("%q on %q: %s, error %d, must be %s", c.pattern, c.text, s, err, c.want)
		}
		held(t, p, x, api.EncUTF8, c.text)
	}
}

// eachText hands on all texts of up to so many pieces.
func eachText(pieces []string, most int, take func(s string)) {
	take("")
	if most == 0 {
		return
	}
	for _, p := range pieces {
		eachText(pieces, most-1, func(s string) { take(p + s) })
	}
}

// K4: all short patterns of some pieces.
func TestShortPatterns(t *testing.T) {
	pieces := strings.Fields(`a b | ( ) (?: (?> (?= (?! (?<= (?<! * *? *+ + {2} {0,2}? {1,2}+ \1 (?i) \b ^ [^a]`)
	count := 0
	eachText(pieces, 4, func(s string) {
		p, fault := parse.Parse(api.DialectRuby, pts(s), false)
		if fault.Err != api.OK {
			return
		}
		if x, ok := madeOf(t, p); ok {
			for _, text := range []string{"", "a", "ab", "baA", "aaba", "b\na"} {
				count += held(t, p, x, api.EncUTF8, text)
			}
		}
	})
	if count < 200000 {
		t.Errorf("too few places: %d", count)
	}
}

// grower of trees.
type grower struct {
	chooser
	groups int
}

func (g *grower) leaf() api.Node {
	switch g.draw(8) {
	case 0:
		return api.Node{Kind: api.NodeLineStart + g.draw(6)}
	case 1:
		return api.Node{Kind: api.NodeAgain, Number: 1 + g.draw(3), Fold: g.draw(2) == 0}
	case 2:
		return api.Node{Kind: api.NodeEmpty}
	}
	return api.Node{Kind: api.NodeSet, Set: g.set()}
}

func (g *grower) node(deep int) api.Node {
	if deep == 0 {
		return g.leaf()
	}
	n := api.Node{Kind: api.NodeRow + g.draw(9)}
	switch n.Kind {
	case api.NodeRow, api.NodeEither:
		return g.kids(n, deep)
	case api.NodeGroup:
		g.groups++
		n.Number = g.groups
	case api.NodeRepeat:
		n.Least, n.Way = g.draw(3), 1+g.draw(3)
		n.Most = n.Least + g.draw(3)
		if g.draw(2) == 0 {
			n.Most = -1
		}
	}
	n.Kids = []api.Node{g.node(deep - 1)}
	return n
}

// kids of a row, or of either: those that may not stand in it are grown once more.
func (g *grower) kids(n api.Node, deep int) api.Node {
	for range 2 + g.draw(2) {
		groups := g.groups
		kid := g.node(g.draw(deep))
		for kid.Kind == n.Kind || n.Kind == api.NodeRow && kid.Kind == api.NodeEmpty {
			g.groups = groups
			kid = g.node(g.draw(deep))
		}
		n.Kids = append(n.Kids, kid)
	}
	return n
}

// eachTree hands on many patterns.
func eachTree(count int, take func(g *grower, p api.Pattern)) {
	g := &grower{chooser: chooser{seed: 11}}
	for i := 0; i < count; {
		g.groups = 0
		p := api.Pattern{Tree: g.node(1 + g.draw(7))}
		p.Groups = g.groups
		if err := facts.Check(p); err == api.OK || err == api.ErrWidth {
			take(g, p)
			i++
		}
	}
}

// K4: many trees and texts, in all encodings.
func TestManyTrees(t *testing.T) {
	count := 0
	eachTree(60000, func(g *grower, p api.Pattern) {
		x, ok := madeOf(t, p)
		if !ok {
			return
		}
		enc := 1 + g.draw(4)
		if text, err := encode.Encode(enc, g.text()); err == api.OK {
			count += held(t, p, x, enc, text)
		}
	})
	if count < 100000 {
		t.Errorf("too few places: %d", count)
	}
}

// K5: with more fuel it comes to the same, with just enough too; with less there is too little.
func TestFuel(t *testing.T) {
	count := 0
	eachTree(3000, func(g *grower, p api.Pattern) {
		x, ok := madeOf(t, p)
		text, _ := encode.Encode(api.EncUTF8, g.text())
		m, is, burnt, err := code.Run(x, api.EncUTF8, text, 0, 10000)
		if !ok || err != api.OK {
			return
		}
		count++
		want := told(m, is, burnt, err)
		for _, fuel := range []int{burnt, burnt + 1, 2 * burnt, api.MaxFuel} {
			if again := told(code.Run(x, api.EncUTF8, text, 0, fuel)); again != want {
				t.Fatalf("%v on %q, fuel %d: %s, must be %s", p, text, fuel, again, want)
			}
		}
		for _, fuel := range []int{burnt - 1, burnt / 2, 0} {
			if less := told(code.Run(x, api.EncUTF8, text, 0, fuel)); less != failed(api.ErrFuel) {
				t.Fatalf("%v on %q, fuel %d: %s", p, text, fuel, less)
			}
		}
	})
	if count < 2000 {
		t.Errorf("too few: %d", count)
	}
}

// nested so deep is a node in others of one kind.
func nested(deep int, outer, inner api.Node) api.Node {
	for range deep {
		outer.Kids = []api.Node{inner}
		inner = outer
	}
	return inner
}

// K4: the greatest trees that there may be have programs that are not too great.
func TestGreatest(t *testing.T) {
	empty, one := api.Node{Kind: api.NodeLineStart}, api.Node{Kind: api.NodeSet, Set: set("a").Set}
	for _, outer := range []api.Node{
		{Kind: api.NodeRepeat, Least: 1, Most: -1, Way: api.WayPossessive},
		{Kind: api.NodeRepeat, Least: 1, Most: 2, Way: api.WayPossessive},
		{Kind: api.NodeRepeat, Least: 1, Most: -1, Way: api.WayLazy},
		{Kind: api.NodeRepeat, Most: -1, Way: api.WayGreedy},
		{Kind: api.NodeAtomic}, {Kind: api.NodeAhead}, {Kind: api.NodeNotAhead}, {Kind: api.NodeBehind}, {Kind: api.NodeNotBehind},
	} {
		for _, kind := range []int{api.NodeRow, api.NodeEither} {
			for _, inner := range []api.Node{empty, one} {
				tree := api.Node{Kind: kind}
				for i := range 5 { // 1, and 4 times 200, and 199
					tree.Kids = append(tree.Kids, nested(199-i/4, outer, inner))
				}
				x, ok := madeOf(t, api.Pattern{Tree: tree})
				if !ok || len(x.Ops) < 1000 {
					t.Errorf("%v: %d operations", outer, len(x.Ops))
				}
			}
		}
	}
	wide := api.Node{Kind: api.NodeEither, Kids: slices.Repeat([]api.Node{one}, 999)}
	wide.Kids[998].Set = set("b").Set
	p := api.Pattern{Tree: wide}
	if x, ok := madeOf(t, p); !ok || held(t, p, x, api.EncUTF8, "bac") != 4 {
		t.Errorf("wide: %d operations", len(x.Ops))
	}
}

// K4: long texts, and repeats with great numbers in one another.
func TestLong(t *testing.T) {
	long := strings.Repeat("a", api.MaxText)
	for _, c := range []struct{ pattern, text, want string }{
		{"a*", long, "0-4000"},
		{"a*b", long, "none"},
		{"(?:a|b)*c", long, "none"},
		{"(a|b)*+", long, "0-4000 3999-4000"},
		{"(?:a{100}){40}", long, "0-4000"},
		{"(?:a{100}){40}a", long, "none"},
		{"(?:a{0,100}?){40}b", strings.Repeat("a", 2) + "b", "0-3"},
		{"(?:(?:){100}){100}", "a", "0-0"},
		{"(?:(?:){100,}){100,}a", "a", "0-1"},
		{`(a*)\1`, long, "0-4000 0-2000"},
		{"(?=(a+))a", long, "0-1 0-4000"},
	} {
		x, _ := madeOf(t, parsed(t, c.pattern))
		m, ok, _, err := code.Run(x, api.EncUTF8, c.text, 0, api.MaxFuel)
		if s := found(m, ok); s != c.want || err != api.OK {
			t.Errorf("%q: %s, error %d, must be %s", c.pattern, s, err, c.want)
		}
	}
	p := parsed(t, "(?<=a{100})b")
	x, _ := madeOf(t, p)
	for _, n := range []int{99, 100, 101} {
		held(t, p, x, api.EncUTF16LE, strings.Repeat("a\x00", n)+"b\x00")
	}
}

// K4: operations that matter for nothing are left out.
func TestPlain(t *testing.T) {
	for s, want := range map[string]int{"": 1, "a": 2, "ab": 3, "a|b": 5, "a*": 4, "a*?": 4, "a?": 5, "a{0}": 1, "a{3}": 4, "(?:){3}": 3, "a+": 7, "a*+": 6} {
		if x, err := code.Make(parsed(t, s)); len(x.Ops) != want || err != api.OK {
			t.Errorf("%q: %v", s, x.Ops)
		}
	}
	x, _ := code.Make(parsed(t, "a+b"))
	if s := told(code.Run(x, api.EncUTF8, "aab", 0, 100)); !strings.HasPrefix(s, "0-3;") {
		t.Error(s)
	}
}
