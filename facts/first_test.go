package facts_test

import (
	"fmt"
	"slices"
	"testing"

	"thicket/api"
	"thicket/facts"
	"thicket/set"
)

// I3: a set alone, whichever it is.
func TestFirstOfSet(t *testing.T) {
	var full api.Node
	full.Kind = api.NodeSet
	for i := range api.MaxRanges {
		full.Set = append(full.Set, api.Range{From: 2 * i, To: 2 * i})
	}
	for _, n := range []api.Node{setOf(), setOf('a', 'a'), setOf(0, api.MaxPoint), setOf(1, 2, 4, 9, 'x', 'z'), full} {
		if l, none, err := facts.First(n); !slices.Equal(l, n.Set) || none || err != api.OK {
			t.Errorf("%v: %v %v %d", n.Set, l, none, err)
		}
	}
}

// I3: no points, if none can be taken; whether none may be.
func TestFirstOfNone(t *testing.T) {
	for s, want := range map[string]bool{
		"": true, "^": true, "$": true, `\b`: true, "(?=a)": true, "(?!a)": true, "(?<=a)": true, "(?<!a)": true,
		"a{0}": true, "(a*){0}": true, "(?:)*": true, "(?:^|$)+": true, "(?>(?=a)|())": true, `(a){0}(?:\1){0}`: true, "a{0}|(?=b)": true,
	} {
		if l, none, err := facts.First(parsed(t, s).Tree); len(l) != 0 || none != want || err != api.OK {
			t.Errorf("%q: %v %v %d", s, l, none, err)
		}
	}
}

// I3: points that must be in the set, as a way takes them first.
func TestFirst(t *testing.T) {
	for _, c := range []struct {
		pattern, in string
		none        bool
	}{
		{"ab", "a", false},
		{"a?b", "ab", false},
		{"a*b?c", "abc", false},
		{"a?b?", "ab", true},
		{"a|bc|d*", "abd", true},
		{"(?:a|)(?:b|c)d", "abc", false},
		{"^a", "a", false},
		{"(?=x)a", "a", false},
		{"(?<=x)(?!y)a", "a", false},
		{"(?>a?)b", "ab", false},
		{"(a{0})(b+)c", "b", false},
		{`(a)|\1b`, "axyz", false},
		{`(?i:(k))\1`, "kK\u212a", false},
		{"[^a]b", "bc\n", false},
		{"(?:a{0,3}){2}b{2,}", "ab", false},
		{"a{100}{100}{100}{100}b", "a", false},
	} {
		l, none, err := facts.First(parsed(t, c.pattern).Tree)
		if none != c.none || err != api.OK || set.Check(l) != api.OK {
			t.Errorf("%q: %v %v %d", c.pattern, l, none, err)
		}
		for _, p := range c.in {
			if has, _ := set.Has(l, int(p)); !has {
				t.Errorf("%q: %c is not in %v", c.pattern, p, l)
			}
		}
	}
}

// I3: what would be too many ranges is a set all the same, with all that it must have.
func TestFirstOfMany(t *testing.T) {
	either := node(api.NodeEither)
	for k := range 3 {
		n := setOf()
		for i := range 300 {
			n.Set = append(n.Set, api.Range{From: 9 * (900*k + i), To: 9*(900*k+i) + k})
		}
		either.Kids = append(either.Kids, n)
	}
	for _, n := range []api.Node{either, node(api.NodeRow, repeat(0, 1, either.Kids[0]), repeat(0, -1, either.Kids[1]), either.Kids[2])} {
		l, none, err := facts.First(n)
		if none || err != api.OK || set.Check(l) != api.OK {
			t.Fatalf("%d ranges, %v %d", len(l), none, err)
		}
		for _, kid := range either.Kids {
			if rest, err := set.Less(kid.Set, l); len(rest) != 0 || err != api.OK {
				t.Errorf("%d ranges are not in it, %d", len(rest), err)
			}
		}
	}
}

// P2, P3: what is handed in is only read, what comes out is the caller's, and each answer is the same each time.
func TestMemory(t *testing.T) {
	build := func() api.Pattern {
		p := parsed(t, `(?<x>[a-cx]|\1)?[d-f]*|(?<=[g-iy])`)
		p.Tree.Kids = append(p.Tree.Kids, api.Node{Kind: 99})[:2]
		p.Names = append(p.Names, api.Name{Text: "spare"})[:1]
		return p
	}
	p, keep := build(), build()
	l, _, _ := facts.First(p.Tree)
	want := slices.Clone(l)
	for range 3 {
		f, err := facts.Of(p.Tree)
		if f != (api.Facts{Most: -1}) || err != api.OK || facts.Check(p) != api.OK {
			t.Errorf("again: %v %d", f, err)
		}
		l, none, err := facts.First(p.Tree)
		if !slices.Equal(l, want) || !none || err != api.OK {
			t.Errorf("again: %v %v %d", l, none, err)
		}
		clear(l[:cap(l)])
	}
	one := setOf('a', 'c', 'x', 'x')
	for _, n := range []api.Node{one, group(1, one), repeat(0, 1, one), node(api.NodeAtomic, one)} {
		l, _, _ := facts.First(n)
		clear(l)
		if one.Set[0].From != 'a' || one.Set[1].To != 'x' {
			t.Fatalf("kind %d: its set is handed out", n.Kind)
		}
	}
	p.Tree.Kids, keep.Tree.Kids = p.Tree.Kids[:3], keep.Tree.Kids[:3]
	if fmt.Sprint(p) != fmt.Sprint(keep) || !slices.Equal(p.Names[:2], keep.Names[:2]) {
		t.Error("what was handed in is changed")
	}
}
