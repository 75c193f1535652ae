package token_test

import (
	"slices"
	"testing"

	"thicket/api"
	"thicket/token"
)

func allTold(t *testing.T, dialect int, l []int, tokens []api.Token, starts []int, fault api.Fault) {
	t.Helper()
	a, b, f := token.All(dialect, l)
	if !slices.Equal(a, tokens) || !slices.Equal(b, starts) || f != fault {
		t.Errorf("dialect %d, All of %v: %v %v %v, must be %v %v %v", dialect, l, a, b, f, tokens, starts, fault)
	}
}

// E6: tokens and where they begin, brackets or not.
func TestAll(t *testing.T) {
	tokens := func(l ...answer) []api.Token {
		var out []api.Token
		for _, a := range l {
			out = append(out, a.t)
		}
		return out
	}
	allTold(t, api.DialectRuby, pts(`(?<x>a|\d)*?[^]\]\k<x>{2}+{`), tokens(
		open(api.NodeGroup, "x", 0, 0), point('a', 0), kind(api.TokenBar, 0), class("digit", false, 0), kind(api.TokenClose, 0), repeat(0, -1, api.WayLazy, 0),
		kind(api.TokenSet, 0), look(api.NodeLineStart, 0), point(']', 0), point(']', 0), again(0, "x", 0), repeat(2, 2, api.WayPossessive, 0), point('{', 0),
	), []int{0, 5, 6, 7, 9, 10, 12, 13, 14, 15, 17, 22, 26}, api.Fault{})
	allTold(t, api.DialectPosix, pts(`(a\d)*?{2,}[:$`), tokens(
		open(api.NodeGroup, "", 0, 0), point('a', 0), point('d', 0), kind(api.TokenClose, 0), repeat(0, -1, 1, 0), repeat(0, 1, 1, 0), repeat(2, -1, 1, 0), kind(api.TokenSet, 0), point(':', 0), look(api.NodeLineEnd, 0),
	), []int{0, 1, 2, 4, 5, 6, 7, 11, 12, 13}, api.Fault{})
	allTold(t, api.DialectEmacs, pts("\\(a|\\|\\12\\)\\{,2\\}\\`"), tokens(
		open(api.NodeGroup, "", 0, 0), point('a', 0), point('|', 0), kind(api.TokenBar, 0), again(1, "", 0), point('2', 0), kind(api.TokenClose, 0), repeat(0, 2, 1, 0), look(api.NodeTextStart, 0),
	), []int{0, 2, 3, 4, 6, 8, 9, 11, 17}, api.Fault{})
	for _, dialect := range dialects {
		allTold(t, dialect, nil, nil, nil, api.Fault{})
		allTold(t, dialect, []int{}, nil, nil, api.Fault{})
	}
}

// E6: faults of what is handed in, at 0, and their order.
func TestAllHandedIn(t *testing.T) {
	many := make([]int, api.MaxPattern+1)
	for _, dialect := range noDialects {
		for _, l := range [][]int{nil, {'a'}, {-1}, many, pts("ab\\")} {
			allTold(t, dialect, l, nil, nil, api.Fault{Err: api.ErrKind})
		}
	}
	for _, dialect := range dialects {
		allTold(t, dialect, many, nil, nil, api.Fault{Err: api.ErrMany})
		allTold(t, dialect, append(slices.Clone(many), -1), nil, nil, api.Fault{Err: api.ErrMany})
		for _, p := range noPoints {
			allTold(t, dialect, []int{'a', p}, nil, nil, api.Fault{Err: api.ErrRange})
			allTold(t, dialect, []int{'\\', p}, nil, nil, api.Fault{Err: api.ErrRange})
			allTold(t, dialect, append(pts("\\k\\x{110000}(?{"), p), nil, nil, api.Fault{Err: api.ErrRange})
		}
		if a, b, f := token.All(dialect, many[:api.MaxPattern]); len(a) != api.MaxPattern || len(b) != api.MaxPattern || f != (api.Fault{}) {
			t.Errorf("MaxPattern points: %d tokens, %d starts, %v", len(a), len(b), f)
		}
	}
}

// E6: the first fault, where its token begins, and nothing else.
func TestAllFaults(t *testing.T) {
	for s, fault := range map[string]api.Fault{
		`\`: {Err: api.ErrForm}, `ab\`: {Err: api.ErrForm, At: 2}, `a\\\`: {Err: api.ErrForm, At: 3}, `a(?x`: {Err: api.ErrForm, At: 1}, `[\q]`: {Err: api.ErrForm, At: 1},
		`a\x{110000}\q`: {Err: api.ErrRange, At: 1}, `ab*{3,2}`: {Err: api.ErrRange, At: 3}, `a{101}(?`: {Err: api.ErrMany, At: 1}, `a{x}\k<0>`: {Err: api.ErrRange, At: 4}, `a{2}{101}`: {Err: api.ErrMany, At: 4},
	} {
		allTold(t, api.DialectRuby, pts(s), nil, nil, fault)
	}
	allTold(t, api.DialectPosix, pts("(?a{x"), nil, nil, api.Fault{Err: api.ErrForm, At: 3})
	allTold(t, api.DialectEmacs, pts("a{2}\\{2}"), nil, nil, api.Fault{Err: api.ErrForm, At: 4})
}

// eachText hands on all patterns of up to so many points of an alphabet.
func eachText(alphabet []int, most int, take func(l []int)) {
	l := make([]int, 0, most)
	var longer func()
	longer = func() {
		take(l)
		if len(l) == most {
			return
		}
		for _, p := range alphabet {
			l = append(l, p)
			longer()
			l = l[:len(l)-1]
		}
	}
	longer()
}

// E6, P1: All goes on as Next does, whatever it is; each token has points of its own, and only fields of its kind.
func TestAllAsNext(t *testing.T) {
	for _, dialect := range dialects {
		eachText(pts(`\(?<i-a)x{1,}*+k>:`), 4, func(l []int) {
			tokens, starts, fault := token.All(dialect, l)
			at := 0
			for i := 0; at < len(l); i++ {
				got := ask(dialect, l, at)
				if got.err != api.OK {
					if got != wrong(got.err) || fault != (api.Fault{Err: got.err, At: at}) || len(tokens) != 0 || len(starts) != 0 {
						t.Fatalf("dialect %d, %v at %d: %v, and All: %v", dialect, l, at, got, fault)
					}
					return
				}
				if fault.Err == api.OK && (i >= len(tokens) || i >= len(starts) || tokens[i] != got.t || starts[i] != at) || got.next <= at || got.next > len(l) {
					t.Fatalf("dialect %d, %v at %d: %v, and All: %v %v %v", dialect, l, at, got, tokens, starts, fault)
				}
				hasItsFields(t, got.t)
				at = got.next
			}
			if fault != (api.Fault{}) {
				t.Fatalf("dialect %d, All of %v: %v", dialect, l, fault)
			}
		})
	}
}

func hasItsFields(t *testing.T, got api.Token) {
	t.Helper()
	want := api.Token{Kind: got.Kind}
	switch got.Kind {
	case api.TokenPoint, api.TokenLook:
		want.Number = got.Number
	case api.TokenClass:
		want.Text, want.Not = got.Text, got.Not
	case api.TokenRepeat:
		want.Least, want.Most, want.Way = got.Least, got.Most, got.Way
	case api.TokenOpen:
		want.Number, want.Text, want.Fold = got.Number, got.Text, got.Fold
	case api.TokenAgain:
		want.Number, want.Text = got.Number, got.Text
	case api.TokenOption:
		want.Fold = got.Fold
	}
	if got != want {
		t.Errorf("%v has fields that its kind has not", got)
	}
}

// P2, P3: what is handed in is only read, its spare room too; what comes out is new, and the same each time.
func TestMemory(t *testing.T) {
	full := pts(`ab(?<x>c){2,3}?\x{41}\k<x>(?-i)\dxyz`)
	keep := slices.Clone(full)
	for _, dialect := range dialects {
		l := full[2 : len(full)-3]
		first := make([]answer, len(l))
		for at := range l {
			first[at] = ask(dialect, l, at)
		}
		tokens, starts, fault := token.All(dialect, l)
		if !slices.Equal(full, keep) {
			t.Fatal("what was handed in is changed")
		}
		wantTokens, wantStarts := slices.Clone(tokens), slices.Clone(starts)
		clear(tokens[:cap(tokens)])
		clear(starts[:cap(starts)])
		if !slices.Equal(full, keep) {
			t.Fatal("what was handed in is answered")
		}
		for at := range l {
			if got := ask(dialect, l, at); got != first[at] {
				t.Errorf("dialect %d at %d, again: %v, was %v", dialect, at, got, first[at])
			}
		}
		tokens, starts, again := token.All(dialect, l)
		for i := range full {
			full[i] = 'q'
		}
		if !slices.Equal(tokens, wantTokens) || !slices.Equal(starts, wantStarts) || again != fault {
			t.Errorf("dialect %d, All again: %v %v %v", dialect, tokens, starts, again)
		}
		copy(full, keep)
	}
}
