package match_test

import (
	"iter"
	"math"
	"slices"
	"strings"
	"testing"

	"thicket/api"
	"thicket/encode"
	"thicket/facts"
	"thicket/fold"
	"thicket/match"
	"thicket/parse"
	"thicket/show"
)

// state: where one is, and what groups have.
type state struct {
	at     int
	groups [api.MaxGroups]api.Range
}

func noGroups(at int) state {
	s := state{at: at}
	for i := range s.groups {
		s.groups[i] = api.Range{From: -1, To: -1}
	}
	return s
}

// book tells the ways of nodes once more, just as the chapter does: a node's ways are what is ranged over, and fuel is burnt when that begins.
type book struct {
	points      []int
	burnt, fuel int
}

type outOfFuel struct{}

func (b *book) ways(n api.Node, s state) iter.Seq[state] {
	return func(yield func(state) bool) {
		if b.burnt == b.fuel {
			panic(outOfFuel{})
		}
		b.burnt++
		for way := range b.begun(n, s) {
			if !yield(way) {
				return
			}
		}
	}
}

func one(s state, holds bool) iter.Seq[state] {
	return func(yield func(state) bool) {
		if holds {
			yield(s)
		}
	}
}

// onwards: of each of some ways, in order, those that come of it.
func onwards(some iter.Seq[state], then func(state) iter.Seq[state]) iter.Seq[state] {
	return func(yield func(state) bool) {
		for way := range some {
			for last := range then(way) {
				if !yield(last) {
					return
				}
			}
		}
	}
}

func both(first, second iter.Seq[state]) iter.Seq[state] {
	return func(yield func(state) bool) {
		for way := range first {
			if !yield(way) {
				return
			}
		}
		second(yield)
	}
}

// headOf some ways: the first one.
func headOf(some iter.Seq[state]) (state, bool) {
	for way := range some {
		return way, true
	}
	return state{}, false
}

// later: ways that are only begun when they are needed.
func later(some func() iter.Seq[state]) iter.Seq[state] {
	return func(yield func(state) bool) { some()(yield) }
}

func (b *book) begun(n api.Node, s state) iter.Seq[state] {
	switch n.Kind {
	case api.NodeEmpty:
		return one(s, true)
	case api.NodeSet:
		next := s
		next.at++
		return one(next, s.at < len(b.points) && slices.ContainsFunc(n.Set, func(r api.Range) bool { return r.From <= b.points[s.at] && b.points[s.at] <= r.To }))
	case api.NodeRow:
		return b.row(n.Kids, s)
	case api.NodeEither:
		all := b.ways(n.Kids[0], s)
		for _, kid := range n.Kids[1:] {
			all = both(all, b.ways(kid, s))
		}
		return all
	case api.NodeGroup:
		return onwards(b.ways(n.Kids[0], s), func(way state) iter.Seq[state] {
			way.groups[n.Number-1] = api.Range{From: s.at, To: way.at}
			return one(way, true)
		})
	case api.NodeRepeat:
		if n.Way == api.WayPossessive {
			return later(func() iter.Seq[state] { return one(headOf(b.rounds(n, 0, s))) })
		}
		return b.rounds(n, 0, s)
	case api.NodeAtomic:
		return later(func() iter.Seq[state] { return one(headOf(b.ways(n.Kids[0], s))) })
	case api.NodeAgain:
		long, ok := b.again(n, s)
		next := s
		next.at += long
		return one(next, ok)
	}
	if n.Kind >= api.NodeAhead && n.Kind <= api.NodeNotBehind {
		return later(func() iter.Seq[state] { return b.around(n, s) })
	}
	return one(s, b.looks(n.Kind, s.at))
}

func (b *book) row(kids []api.Node, s state) iter.Seq[state] {
	if len(kids) == 0 {
		return one(s, true)
	}
	return onwards(b.ways(kids[0], s), func(way state) iter.Seq[state] { return b.row(kids[1:], way) })
}

func (b *book) rounds(n api.Node, done int, s state) iter.Seq[state] {
	next := func(way state) iter.Seq[state] { return b.rounds(n, done+1, way) }
	if done < n.Least {
		return onwards(b.ways(n.Kids[0], s), next)
	}
	ends := one(s, true)
	if n.Most >= 0 && done >= n.Most {
		return ends
	}
	more := onwards(b.ways(n.Kids[0], s), func(way state) iter.Seq[state] {
		if way.at == s.at {
			return one(way, false)
		}
		return next(way)
	})
	if n.Way == api.WayLazy {
		return both(ends, more)
	}
	return both(more, ends)
}

// around: what looks ahead, and back.
func (b *book) around(n api.Node, s state) iter.Seq[state] {
	kid := n.Kids[0]
	var way state
	var ok bool
	if n.Kind == api.NodeAhead || n.Kind == api.NodeNotAhead {
		way, ok = headOf(b.ways(kid, s))
	} else {
		least, most := width(kid)
		for back := int(least); !ok && back <= int(most) && back <= s.at; back++ {
			from := s
			from.at -= back
			way, ok = headOf(onwards(b.ways(kid, from), func(way state) iter.Seq[state] { return one(way, way.at == s.at) }))
		}
	}
	if n.Kind == api.NodeNotAhead || n.Kind == api.NodeNotBehind {
		return one(s, !ok)
	}
	way.at = s.at
	return one(way, ok)
}

func (b *book) again(n api.Node, s state) (int, bool) {
	g := s.groups[n.Number-1]
	if g.From < 0 || s.at+g.To-g.From > len(b.points) {
		return 0, false
	}
	for i := range g.To - g.From {
		p, q := b.points[g.From+i], b.points[s.at+i]
		if orbit, _ := fold.Orbit(p); p != q && !(n.Fold && slices.Contains(orbit, q)) {
			return 0, false
		}
	}
	return g.To - g.From, true
}

func (b *book) looks(kind, at int) bool {
	word, _ := fold.Class("word")
	is := func(at int) bool {
		return at >= 0 && at < len(b.points) && slices.ContainsFunc(word, func(r api.Range) bool { return r.From <= b.points[at] && b.points[at] <= r.To })
	}
	start, end := at == 0, at == len(b.points)
	switch kind {
	case api.NodeLineStart:
		return start || b.points[at-1] == 10
	case api.NodeLineEnd:
		return end || b.points[at] == 10
	case api.NodeTextStart:
		return start
	case api.NodeTextEnd:
		return end
	case api.NodeWord:
		return is(at-1) && !is(at) || !is(at-1) && is(at)
	}
	return is(at-1) && is(at) || !is(at-1) && !is(at)
}

// width of a tree, least and most, without the bounds that the chapter sets.
func width(n api.Node) (float64, float64) {
	least, most := 0.0, 0.0
	switch n.Kind {
	case api.NodeSet:
		return 1, 1
	case api.NodeAgain:
		return 0, math.Inf(1)
	case api.NodeGroup, api.NodeAtomic:
		return width(n.Kids[0])
	case api.NodeRepeat:
		least, most = width(n.Kids[0])
		times := float64(n.Most)
		if times < 0 {
			times = math.Inf(1)
		}
		if most == 0 || times == 0 {
			return least * float64(n.Least), 0
		}
		return least * float64(n.Least), most * times
	case api.NodeRow:
		for _, kid := range n.Kids {
			l, m := width(kid)
			least, most = least+l, most+m
		}
	case api.NodeEither:
		least = math.Inf(1)
		for _, kid := range n.Kids {
			l, m := width(kid)
			least, most = min(least, l), max(most, m)
		}
	}
	return least, most
}

// isWide tells whether something that looks back has no width, or too great a one.
func isWide(n api.Node) bool {
	if n.Kind == api.NodeBehind || n.Kind == api.NodeNotBehind {
		if _, most := width(n.Kids[0]); most > api.MaxBehind {
			return true
		}
	}
	return slices.ContainsFunc(n.Kids, isWide)
}

// answer of the book, in places.
func (b *book) answer(p api.Pattern, at int) (m api.Match, ok bool, burnt int, err api.Errno) {
	if isWide(p.Tree) {
		return api.Match{}, false, 0, api.ErrWidth
	}
	defer func() {
		if wrong := recover(); wrong != nil {
			_ = wrong.(outOfFuel)
			m, ok, burnt, err = api.Match{}, false, 0, api.ErrFuel
		}
	}()
	way, ok := headOf(b.ways(p.Tree, noGroups(at)))
	if !ok {
		return api.Match{}, false, b.burnt, api.OK
	}
	return api.Match{From: at, To: way.at, Groups: way.groups[:p.Groups]}, true, b.burnt, api.OK
}

// inBytes is a match whose ends are told in bytes.
func inBytes(m api.Match, ok bool, starts []int) api.Match {
	if !ok {
		return m
	}
	out := api.Match{From: starts[m.From], To: starts[m.To]}
	for _, g := range m.Groups {
		if g.From >= 0 {
			g = api.Range{From: starts[g.From], To: starts[g.To]}
		}
		out.Groups = append(out.Groups, g)
	}
	return out
}

// held holds an answer against the book's, at all places of a text, in one encoding.
func held(t *testing.T, name string, p api.Pattern, enc int, points []int, fuel int) {
	t.Helper()
	text, err := encode.Encode(enc, points)
	if err != api.OK {
		return
	}
	starts, _ := encode.Starts(enc, text)
	for place, at := range starts {
		b := &book{points: points, fuel: fuel}
		m, ok, burnt, err := b.answer(p, place)
		want := told(inBytes(m, ok, starts), ok, burnt, err)
		if s := told(match.At(p, enc, text, at, fuel)); s != want {
			t.Fatalf("%q on %q, encoding %d, at %d, fuel %d: %s, must be %s", name, text, enc, at, fuel, s, want)
		}
	}
}

// eachText hands on all texts of up to so many pieces.
func eachText(pieces []string, most int, take func(s string)) {
	take("")
	if most == 0 {
		return
	}
	for _, p := range pieces {
		eachText(pieces, most-1, func(s string) { take(p + s) })
	}
}

// J1 to J4: all short patterns of some pieces, on some texts.
func TestShortPatterns(t *testing.T) {
	pieces := strings.Fields(`a b | ( ) (?: (?> (?= (?! (?<= (?<! * *? *+ + {2} {0,2}? {1,2}+ \1 (?i) \b ^ [^a]`)
	texts := [][]int{nil, pts("a"), pts("ab"), pts("baA"), pts("aaba"), pts("b\na")}
	count := 0
	eachText(pieces, 4, func(s string) {
		p, fault := parse.Parse(api.DialectRuby, pts(s), false)
		if fault.Err != api.OK {
			return
		}
		count++
		for _, points := range texts {
			held(t, s, p, api.EncUTF8, points, 200)
		}
	})
	if count < 10000 {
		t.Errorf("too few patterns: %d", count)
	}
}

// grower of patterns; it chooses by numbers that are the same each time.
type grower struct{ seed uint64 }

func (g *grower) draw(n int) int {
	g.seed = g.seed*6364136223846793005 + 1442695040888963407
	return int(g.seed >> 33 % uint64(n))
}

func (g *grower) of(l string) string {
	all := strings.Fields(l)
	return all[g.draw(len(all))]
}

func (g *grower) pattern(deep int) string {
	if deep == 0 {
		return g.of(`a a b b k K é . [^a] [a-c] \w \n`)
	}
	in := func() string { return g.pattern(deep - 1) }
	switch g.draw(12) {
	case 0, 1, 2:
		return in() + in()
	case 3:
		return in() + in() + in()
	case 4, 5:
		return "(?:" + in() + "|" + in() + strings.Repeat("|", g.draw(4)/3) + ")"
	case 6, 7:
		return "(" + in() + ")"
	case 8:
		return "(?:" + in() + ")" + g.of("* + ? *? +? ?? *+ ++ ?+ {2} {1,2} {0,2}? {2,3}+ {2,} {1,}? {0}")
	case 9:
		return g.of("(?> (?= (?! (?<= (?<! (?i:") + in() + ")"
	case 10:
		return g.of(`\1 \1 \2 \3 (?i:\1) ^ $ \A \z \b \B`)
	}
	return in()
}

func (g *grower) text() []int {
	var l []int
	letters := pts("aaaabbbbcckK\u212aéÉ \n-\U0001f600")
	for range g.draw(9) {
		l = append(l, letters[g.draw(len(letters))])
	}
	return l
}

// eachGrown hands on many patterns, each with the text that it was read from.
func eachGrown(count int, take func(g *grower, s string, p api.Pattern)) {
	g := &grower{seed: 5}
	for i := 0; i < count; {
		s := g.pattern(1 + g.draw(6))
		if p, fault := parse.Parse(api.DialectRuby, pts(s), g.draw(4) == 0); fault.Err == api.OK {
			take(g, s, p)
			i++
		}
	}
}

// J1 to J4: many long patterns and texts, in all encodings.
func TestManyPatterns(t *testing.T) {
	matched := 0
	eachGrown(30000, func(g *grower, s string, p api.Pattern) {
		points := g.text()
		held(t, s, p, 1+g.draw(4), points, 1+g.draw(2000))
		text, _ := encode.Encode(api.EncUTF8, points)
		if _, ok, burnt, _ := match.At(p, api.EncUTF8, text, 0, 1000); ok && burnt > 5 {
			matched++
		}
	})
	if matched < 3000 {
		t.Errorf("too few match: %d", matched)
	}
}

// J1: the same points match in the same way in any encoding.
func TestEncodings(t *testing.T) {
	eachGrown(3000, func(g *grower, s string, p api.Pattern) {
		points := g.text()
		for enc := api.EncUTF8; enc <= api.EncLatin1; enc++ {
			held(t, s, p, enc, points, 1000)
		}
	})
}

// J5: with more fuel it comes to the same, with just enough too, and with less there is too little.
func TestFuel(t *testing.T) {
	eachGrown(3000, func(g *grower, s string, p api.Pattern) {
		text, _ := encode.Encode(api.EncUTF8, g.text())
		m, ok, burnt, err := match.At(p, api.EncUTF8, text, 0, 5000)
		if err != api.OK {
			return
		}
		want := told(m, ok, burnt, err)
		for _, fuel := range []int{burnt, burnt + 1, 2 * burnt, api.MaxFuel} {
			if again := told(match.At(p, api.EncUTF8, text, 0, fuel)); again != want {
				t.Fatalf("%q on %q, fuel %d: %s, must be %s", s, text, fuel, again, want)
			}
		}
		for _, fuel := range []int{burnt - 1, burnt / 2, 0} {
			if less := told(match.At(p, api.EncUTF8, text, 0, fuel)); less != failed(api.ErrFuel) {
				t.Fatalf("%q on %q, fuel %d: %s", s, text, fuel, less)
			}
		}
	})
}

// I3, I4, J5: what ways take is between Least and Most, and begins with a point of First.
func TestFacts(t *testing.T) {
	ways, took := 0, 0
	eachGrown(10000, func(g *grower, s string, p api.Pattern) {
		f, err := facts.Of(p.Tree)
		first, none, err2 := facts.First(p.Tree)
		if err != api.OK || err2 != api.OK || none != (f.Least == 0) || f.Most == 0 && len(first) != 0 {
			t.Fatalf("%q: %v %d, %v %v %d", s, f, err, first, none, err2)
		}
		b := &book{points: g.text(), fuel: 3000}
		if isWide(p.Tree) {
			return
		}
		defer func() {
			if wrong := recover(); wrong != nil {
				_ = wrong.(outOfFuel) // there are too many ways to see them all
			}
		}()
		for at := range len(b.points) + 1 {
			for way := range b.ways(p.Tree, noGroups(at)) {
				ways++
				long := way.at - at
				if long < f.Least || f.Most >= 0 && long > f.Most {
					t.Errorf("%q: %d points, must be %v", s, long, f)
				}
				if long == 0 {
					continue
				}
				took++
				if !slices.ContainsFunc(first, func(r api.Range) bool { return r.From <= b.points[at] && b.points[at] <= r.To }) {
					t.Errorf("%q: takes %d first, which is not in %v", s, b.points[at], first)
				}
			}
		}
	})
	if ways < 10000 || took < 10000 {
		t.Errorf("too few ways: %d, %d", ways, took)
	}
}

// What is shown, and parsed again, finds the same; what looks ahead and what does not tell opposites, and take nothing.
func TestWhole(t *testing.T) {
	eachGrown(3000, func(g *grower, s string, p api.Pattern) {
		text, _ := encode.Encode(api.EncUTF8, g.text())
		m, ok, burnt, err := match.At(p, api.EncUTF8, text, 0, 100000)
		written, _ := show.Show(p)
		if q, fault := parse.Parse(api.DialectRuby, pts(written), false); fault.Err == api.OK {
			if again := told(match.At(q, api.EncUTF8, text, 0, 100000)); again != told(m, ok, burnt, err) {
				t.Fatalf("%q, shown: %s, must be %s", s, again, told(m, ok, burnt, err))
			}
		}
		if err != api.OK {
			return
		}
		p.Tree = api.Node{Kind: api.NodeAhead, Kids: []api.Node{p.Tree}}
		ahead, is, _, _ := match.At(p, api.EncUTF8, text, 0, 100001)
		p.Tree.Kind = api.NodeNotAhead
		not, isNot, _, _ := match.At(p, api.EncUTF8, text, 0, 100001)
		if is != ok || isNot == ok || ahead.To != 0 || not.To != 0 {
			t.Fatalf("%q on %q: %v; ahead %v, not %v", s, text, ok, is, isNot)
		}
	})
}
