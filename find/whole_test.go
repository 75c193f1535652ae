package find_test

import (
	"fmt"
	"slices"
	"strings"
	"testing"

	"thicket/api"
	"thicket/bracket"
	"thicket/code"
	"thicket/encode"
	"thicket/facts"
	"thicket/find"
	"thicket/fold"
	"thicket/match"
	"thicket/parse"
	"thicket/set"
	"thicket/show"
	"thicket/split"
	"thicket/token"
)

// book tells the chapter's calls once more, place by place, by the calls of chapter 10 alone.
type book struct {
	p      api.Pattern
	enc    int
	text   string
	starts []int
	fuel   int
	burnt  int
}

// search from one of Starts on, told by its number.
func (b *book) search(place int) (api.Match, bool, api.Errno) {
	for ; place < len(b.starts); place++ {
		m, ok, burnt, err := match.At(b.p, b.enc, b.text, b.starts[place], b.fuel-b.burnt)
		b.burnt += burnt
		if ok || err != api.OK {
			return m, ok, err
		}
	}
	return api.Match{}, false, api.OK
}

func (b *book) all() ([]api.Match, api.Errno) {
	var l []api.Match
	for place := 0; ; {
		m, ok, err := b.search(place)
		if err != api.OK {
			return nil, err
		}
		if !ok {
			return l, api.OK
		}
		l = append(l, m)
		place = slices.Index(b.starts, m.To)
		if m.To == m.From {
			place++
		}
	}
}

// held holds all calls against the book's answers, and against each other.
func held(t *testing.T, name string, p api.Pattern, enc int, points []int, fuel int) {
	t.Helper()
	text, err := encode.Encode(enc, points)
	if err != api.OK {
		return
	}
	starts, _ := encode.Starts(enc, text)
	about := fmt.Sprintf("%q in %q, encoding %d, fuel %d", name, text, enc, fuel)
	for place, from := range starts {
		b := &book{p: p, enc: enc, text: text, starts: starts, fuel: fuel}
		m, ok, err := b.search(place)
		if err != api.OK {
			b.burnt = 0
		}
		if s, want := told(find.Search(p, enc, text, from, fuel)), told(m, ok, b.burnt, err); s != want {
			t.Fatalf("%s, from %d: %s, must be %s", about, from, s, want)
		}
	}
	b := &book{p: p, enc: enc, text: text, starts: starts, fuel: fuel}
	l, err := b.all()
	if err != api.OK {
		b.burnt = 0
	}
	if s, want := toldAll(find.All(p, enc, text, fuel)), toldAll(l, b.burnt, err); s != want {
		t.Fatalf("%s: %s, must be %s", about, s, want)
	}
	heldWhole(t, about, b, l, err)
}

// heldWhole: what Replace and Split make of all matches.
func heldWhole(t *testing.T, about string, b *book, l []api.Match, err api.Errno) {
	t.Helper()
	with, _ := encode.Encode(b.enc, pts(`<\0\\`))
	if b.p.Groups > 0 {
		more, _ := encode.Encode(b.enc, pts(`|\1`))
		with += more
	}
	var replaced strings.Builder
	var parts []string
	done, cut := 0, 0
	for _, m := range l {
		s, err := find.Expand(b.p, b.enc, b.text, with, m)
		if err != api.OK || m.From < done {
			t.Fatalf("%s: %v: error %d", about, m, err)
		}
		replaced.WriteString(b.text[done:m.From] + s)
		done = m.To
		if m.From < m.To {
			parts = append(parts, b.text[cut:m.From])
			cut = m.To
		}
	}
	replaced.WriteString(b.text[done:])
	parts = append(parts, b.text[cut:])
	want, wantSame := toldText(replaced.String(), b.burnt, err), toldText(b.text, b.burnt, err)
	if err != api.OK {
		want, wantSame, parts = toldText("", 0, err), toldText("", 0, err), nil
	}
	if s := toldText(find.Replace(b.p, b.enc, b.text, with, b.fuel)); s != want {
		t.Fatalf("%s: replaced: %s, must be %s", about, s, want)
	}
	whole, _ := encode.Encode(b.enc, pts(`\0`))
	if s := toldText(find.Replace(b.p, b.enc, b.text, whole, b.fuel)); s != wantSame {
		t.Fatalf("%s: replaced by itself: %s, must be %s", about, s, wantSame)
	}
	if got, e := find.Split(b.p, b.enc, b.text, b.fuel); !slices.Equal(got, parts) || e != err {
		t.Fatalf("%s: parts %q, error %d, must be %q, %d", about, got, e, parts, err)
	}
}

// eachText hands on all texts of up to so many pieces.
func eachText(pieces []string, most int, take func(s string)) {
	take("")
	if most == 0 {
		return
	}
	for _, p := range pieces {
		eachText(pieces, most-1, func(s string) { take(p + s) })
	}
}

// eachPattern hands on all patterns of up to so many pieces in which what looks back has a width.
func eachPattern(most int, take func(s string, p api.Pattern)) {
	pieces := strings.Fields(`a b [^a] | ( ) (?= (?! (?<= (?<! (?> * +? {2} \1 \b ^ $`)
	eachText(pieces, most, func(s string) {
		p, fault := parse.Parse(api.DialectRuby, pts(s), false)
		if fault.Err == api.OK && facts.Check(p) == api.OK {
			take(s, p)
		}
	})
}

func someTexts() [][]int {
	return [][]int{nil, pts("a"), pts("ba"), pts("aab\na"), pts("abéab"), pts("b\U0001f600aab-a")}
}

// L1 to L5: all short patterns of some pieces.
func TestShortPatterns(t *testing.T) {
	count := 0
	eachPattern(4, func(s string, p api.Pattern) {
		count++
		for i, points := range someTexts() {
			held(t, s, p, 1+(count+i)%4, points, 1000)
			held(t, s, p, 1+(count+i/2)%4, points, count%40)
		}
	})
	if count < 7000 {
		t.Errorf("too few patterns: %d", count)
	}
}

// The same points are found in the same way in any encoding.
func TestEncodings(t *testing.T) {
	eachPattern(3, func(s string, p api.Pattern) {
		for _, points := range someTexts() {
			var first string
			for enc := api.EncUTF8; enc <= api.EncLatin1; enc++ {
				text, err := encode.Encode(enc, points)
				if err != api.OK {
					continue
				}
				starts, _ := encode.Starts(enc, text)
				place := func(at int) int { return slices.Index(starts, at) }
				l, burnt, err := find.All(p, enc, text, 1000)
				for i, m := range l {
					l[i].From, l[i].To = place(m.From), place(m.To)
					for j, g := range m.Groups {
						m.Groups[j] = api.Range{From: place(g.From), To: place(g.To)}
					}
				}
				this := toldAll(l, burnt, err)
				if first == "" {
					first = this
				}
				if this != first {
					t.Fatalf("%q in %q, encoding %d: %s, but first %s", s, text, enc, this, first)
				}
			}
		}
	})
}

// What is shown is parsed as it was, and finds the same; a program matches just where the pattern does.
func TestShownAndMade(t *testing.T) {
	eachPattern(3, func(s string, p api.Pattern) {
		written, err := show.Show(p)
		if err != api.OK || show.Check(p) != api.OK {
			t.Fatalf("%q: error %d", s, err)
		}
		again, fault := parse.Parse(api.DialectRuby, pts(written), false)
		if fault.Err != api.OK {
			t.Fatalf("%q, shown as %q: %v", s, written, fault)
		}
		x, err := code.Make(p)
		if err != api.OK {
			t.Fatalf("%q: error %d", s, err)
		}
		for _, points := range someTexts() {
			text, _ := encode.Encode(api.EncUTF8, points)
			l, burnt, err := find.All(p, api.EncUTF8, text, 1000)
			if got, want := toldAll(find.All(again, api.EncUTF8, text, 1000)), toldAll(l, burnt, err); got != want {
				t.Fatalf("%q, shown, in %q: %s, must be %s", s, text, got, want)
			}
			for _, m := range l {
				n, ok, _, err := code.Run(x, api.EncUTF8, text, m.From, api.MaxFuel)
				if !ok || err != api.OK || found(n) != found(m) {
					t.Fatalf("%q as a program, in %q: %s, error %d, must be %s", s, text, found(n), err, found(m))
				}
			}
		}
	})
}

// What looks ahead and what does not tell opposites, and take nothing.
func TestOpposites(t *testing.T) {
	eachPattern(3, func(s string, p api.Pattern) {
		ahead := api.Pattern{Tree: api.Node{Kind: api.NodeAhead, Kids: []api.Node{p.Tree}}, Groups: p.Groups}
		not := api.Pattern{Tree: api.Node{Kind: api.NodeNotAhead, Kids: []api.Node{p.Tree}}, Groups: p.Groups}
		for _, points := range someTexts() {
			text, _ := encode.Encode(api.EncUTF8, points)
			starts, _ := encode.Starts(api.EncUTF8, text)
			var places []int
			for _, p := range []api.Pattern{ahead, not} {
				l, _, err := find.All(p, api.EncUTF8, text, api.MaxFuel)
				for _, m := range l {
					places = append(places, m.From)
					if m.From != m.To || err != api.OK {
						t.Fatalf("%q in %q: %v, error %d", s, text, m, err)
					}
				}
			}
			slices.Sort(places)
			if !slices.Equal(places, starts) {
				t.Fatalf("%q in %q: at %d, must be %d", s, text, places, starts)
			}
		}
	})
}

// The document's examples, from the first one to the last one.
func TestExamples(t *testing.T) {
	same := func(number int, got, want string) {
		t.Helper()
		if got != want {
			t.Errorf("example %d: %s, must be %s", number, got, want)
		}
	}
	s, _ := encode.Encode(api.EncUTF16LE, []int{128512, 65})
	same(1, fmt.Sprint(len(s)), "6")
	least, _ := fold.Least('k')
	same(2, fmt.Sprint(least), fmt.Sprint(int('K')))
	joined, _ := set.Make([]api.Range{{From: 1, To: 4}, {From: 5, To: 9}})
	same(3, fmt.Sprint(joined), "[{1 9}]")
	roads, _ := split.Roads(api.EncUTF8, []api.Range{{From: 'A', To: 'B'}, {From: 'é', To: 'é'}})
	same(4, fmt.Sprint(len(roads)), "2")
	tok, next, _ := token.Next(api.DialectRuby, pts("{2}?"), 0)
	same(5, fmt.Sprint(tok.Least, tok.Most, tok.Way, next), fmt.Sprint(2, 2, api.WayLazy, 4))
	within, next, _ := bracket.Parse(api.DialectRuby, pts("a-c]"), 0, false)
	same(6, fmt.Sprint(within, next), "[{97 99}] 4")
	p := parsed(t, "a(?<x>b|c)*")
	same(7, fmt.Sprint(p.Tree.Kind == api.NodeRow, len(p.Tree.Kids), p.Groups, p.Names), "true 2 1 [{x 1}]")
	shown, _ := show.Show(api.Pattern{Tree: api.Node{Kind: api.NodeLineStart}})
	same(8, shown, "^")
	f, _ := facts.Of(api.Node{Kind: api.NodeSet})
	same(9, fmt.Sprint(f.Least, f.Most), "1 1")
	same(10, told(match.At(parsed(t, "(a|ab)c"), api.EncUTF8, "abc", 0, 100)), "0-3 0-2; burnt 9")
	x, _ := code.Make(parsed(t, "a+b"))
	m, ok, _, _ := code.Run(x, api.EncUTF8, "aab", 0, 100)
	same(11, fmt.Sprint(ok, m.From, m.To), "true 0 3")
	replaced, _, _ := find.Replace(parsed(t, "b"), api.EncUTF8, "abcb", `<\0>`, 100)
	same(12, replaced, "a<b>c<b>")
}
