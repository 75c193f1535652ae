package bracket_test

import (
	"slices"
	"strings"
	"testing"

	"thicket/api"
	"thicket/bracket"
	"thicket/fold"
	"thicket/set"
)

var dialects = []int{api.DialectRuby, api.DialectPosix, api.DialectEmacs}

var noDialects = []int{-1 << 63, -1, 0, 4, 1 << 32, 1<<32 + 1, 1<<63 - 1}

func pts(s string) []int {
	var l []int
	for _, c := range s {
		l = append(l, int(c))
	}
	return l
}

func ranges(ends ...int) []api.Range {
	var l []api.Range
	for i := 0; i < len(ends); i += 2 {
		l = append(l, api.Range{From: ends[i], To: ends[i+1]})
	}
	return l
}

// must is what a call that cannot go wrong answers.
func must(l []api.Range, err api.Errno) []api.Range {
	if err != api.OK {
		panic(err)
	}
	return l
}

func not(l []api.Range) []api.Range { return must(set.Not(l)) }

func folded(l []api.Range) []api.Range { return must(set.Fold(l)) }

func union(a, b []api.Range) []api.Range { return must(set.Union(a, b)) }

func class(name string) []api.Range { return must(fold.Class(name)) }

// means holds a set, and the end of the text as the next point, against the answer; and with points ahead and behind too.
func means(t *testing.T, dialect int, s string, fold bool, want []api.Range) {
	t.Helper()
	l, next, fault := bracket.Parse(dialect, pts(s), 0, fold)
	if !slices.Equal(l, want) || next != len(pts(s)) || fault != (api.Fault{}) {
		t.Errorf("dialect %d, %q, folded %v: %v %d %v, must be %v", dialect, s, fold, l, next, fault, want)
	}
	l, next, fault = bracket.Parse(dialect, pts("[é"+s+"]a]"), 2, fold)
	if !slices.Equal(l, want) || next != len(pts(s))+2 || fault != (api.Fault{}) {
		t.Errorf("dialect %d, %q among others, folded %v: %v %d %v, must be %v", dialect, s, fold, l, next, fault, want)
	}
}

// fails holds a fault against the answer, folded or not; and with points ahead, so that it lies as much further on.
func fails(t *testing.T, dialect int, s string, err api.Errno, at int) {
	t.Helper()
	for _, fold := range []bool{false, true} {
		l, next, fault := bracket.Parse(dialect, pts(s), 0, fold)
		if len(l) != 0 || next != 0 || fault != (api.Fault{Err: err, At: at}) {
			t.Errorf("dialect %d, %q: %v %d %v, must be %d at %d", dialect, s, l, next, fault, err, at)
		}
		l, next, fault = bracket.Parse(dialect, pts("\\q[é"+s), 4, fold)
		if len(l) != 0 || next != 0 || fault != (api.Fault{Err: err, At: at + 4}) {
			t.Errorf("dialect %d, %q behind others: %v %d %v, must be %d at %d", dialect, s, l, next, fault, err, at+4)
		}
	}
}

// F1, F2: what all dialects have in common.
func TestItems(t *testing.T) {
	for s, want := range map[string][]api.Range{
		"a]": ranges('a', 'a'), "ab]": ranges('a', 'b'), "ca]": ranges('a', 'a', 'c', 'c'), "aa]": ranges('a', 'a'), "é\U0010ffff\x00]": ranges(0, 0, 233, 233, api.MaxPoint, api.MaxPoint),
		"]]": ranges(']', ']'), "]a]": ranges(']', ']', 'a', 'a'), "]-a]": ranges(']', 'a'), "]-]": ranges('-', '-', ']', ']'),
		"a^]": ranges('^', '^', 'a', 'a'), "-]": ranges('-', '-'), "--]": ranges('-', '-'), "-a]": ranges('-', '-', 'a', 'a'), "a-]": ranges('-', '-', 'a', 'a'),
		"a-c]": ranges('a', 'c'), "a-a]": ranges('a', 'a'), "a-cb-e]": ranges('a', 'e'), "a-cx-z]": ranges('a', 'c', 'x', 'z'), "\x00-\U0010ffff]": ranges(0, api.MaxPoint),
		"a-c-]": ranges('-', '-', 'a', 'c'), "a-c-e]": ranges('-', '-', 'a', 'c', 'e', 'e'), "a-c-e-g]": ranges('-', '-', 'a', 'c', 'e', 'g'),
		"--a]": ranges('-', 'a'), "---]": ranges('-', '-'), "+--]": ranges('+', '-'), "a-c--z]": ranges('-', 'z'), "+--b]": ranges('+', '-', 'b', 'b'),
		"(-.]": ranges('(', '.'), "*?{2}]": ranges('*', '*', '2', '2', '?', '?', '{', '{', '}', '}'), ":a]": ranges(':', ':', 'a', 'a'), "a:]": ranges(':', ':', 'a', 'a'),
		"[:digit:]]": class("digit"), "[:digit:][:space:]]": union(class("digit"), class("space")), "[:any:]]": ranges(0, api.MaxPoint),
		"x[:digit:]y]":    union(class("digit"), ranges('x', 'y')),
		"[:digit:]-]":     union(class("digit"), ranges('-', '-')),
		"[:digit:]-a]":    union(class("digit"), ranges('-', '-', 'a', 'a')),
		"[:digit:]--a]":   union(class("digit"), ranges('-', 'a')),
		"a&b]":            ranges('&', '&', 'a', 'b'),
		"&]":              ranges('&', '&'),
		"!-&a]":           ranges('!', '&', 'a', 'a'),
		"a-c[:ascii:]^-]": ranges(0, 127),
	} {
		for _, dialect := range dialects {
			means(t, dialect, s, false, want)
			means(t, dialect, s, true, folded(want))
			means(t, dialect, "^"+s, false, not(want))
			means(t, dialect, "^"+s, true, not(folded(want)))
		}
	}
}

// F2: each class, by its name; all but it in DialectRuby alone.
func TestClasses(t *testing.T) {
	for _, name := range []string{"any", "ascii", "cntrl", "digit", "xdigit", "blank", "space", "punct", "alpha", "upper", "lower", "alnum", "word", "graph"} {
		for _, dialect := range dialects {
			means(t, dialect, "[:"+name+":]]", false, class(name))
			means(t, dialect, "[:"+name+":]]", true, folded(class(name)))
			means(t, dialect, "^[:"+name+":]]", false, not(class(name)))
			means(t, dialect, "^[:"+name+":]]", true, not(folded(class(name))))
			// Many times the same ranges are no more than once.
			means(t, dialect, strings.Repeat("[:"+name+":]", 25)+"]", false, class(name))
		}
		means(t, api.DialectRuby, "[:^"+name+":]]", false, not(class(name)))
		means(t, api.DialectRuby, "[:^"+name+":]]", true, folded(not(class(name))))
		fails(t, api.DialectPosix, "[:^"+name+":]]", api.ErrForm, 2)
		fails(t, api.DialectEmacs, "[:^"+name+":]]", api.ErrForm, 2)
	}
}

// F3: in DialectPosix and DialectEmacs `\`, `[` and `&` are points.
func TestPlain(t *testing.T) {
	for _, dialect := range []int{api.DialectPosix, api.DialectEmacs} {
		for s, want := range map[string][]api.Range{
			`\]`: ranges('\\', '\\'), `\d]`: ranges('\\', '\\', 'd', 'd'), `\x41]`: ranges('1', '1', '4', '4', '\\', '\\', 'x', 'x'), `Z-\]`: ranges('Z', '\\'), `\-a]`: ranges('\\', 'a'),
			"[]": ranges('[', '['), "[a]": ranges('[', '[', 'a', 'a'), "[^a]": ranges('[', '[', '^', '^', 'a', 'a'), "[-a]": ranges('[', 'a'), "Z-[]": ranges('Z', '['), "a[]": ranges('[', '[', 'a', 'a'), "[[]": ranges('[', '['), "[[:digit:]]": union(class("digit"), ranges('[', '[')),
			"&&]": ranges('&', '&'), "a&&]": ranges('&', '&', 'a', 'a'), "&&a]": ranges('&', '&', 'a', 'a'), "a&&b]": ranges('&', '&', 'a', 'b'), "!-&&]": ranges('!', '&'), "a&&&b]": ranges('&', '&', 'a', 'b'),
			"[=a=]": ranges('=', '=', '[', '[', 'a', 'a'), "[.a.]": ranges('.', '.', '[', '[', 'a', 'a'),
		} {
			means(t, dialect, s, false, want)
			means(t, dialect, s, true, folded(want))
			means(t, dialect, "^"+s, true, not(folded(want)))
		}
	}
}

// F3: what a `\` means in DialectRuby.
func TestEscapes(t *testing.T) {
	for s, want := range map[string][]api.Range{
		`\d]`: class("digit"), `\w]`: class("word"), `\s]`: class("space"), `\h]`: class("xdigit"), `\D]`: not(class("digit")), `\W]`: not(class("word")), `\S]`: not(class("space")), `\H]`: not(class("xdigit")),
		`\d\s]`: union(class("digit"), class("space")), `\d-z]`: union(class("digit"), ranges('-', '-', 'z', 'z')), `\d-]`: union(class("digit"), ranges('-', '-')), `\W\d]`: union(not(class("word")), class("digit")),
		`\n\t\r\f\v\a\e]`: ranges(7, 7, 9, 13, 27, 27), `\]]`: ranges(']', ']'), `\\]`: ranges('\\', '\\'), `\^a]`: ranges('^', '^', 'a', 'a'), `a\-c]`: ranges('-', '-', 'a', 'a', 'c', 'c'), `\[a]`: ranges('[', '[', 'a', 'a'), `\[:digit:]`: union(ranges(':', ':', '[', '['), union(ranges('d', 'd', 'g', 'g', 'i', 'i'), ranges('t', 't'))), `\&&]`: ranges('&', '&'), `&\&]`: ranges('&', '&'), `[\:a]]`: ranges(':', ':', 'a', 'a'),
		`\x41]`: ranges('A', 'A'), `\x4g]`: ranges(4, 4, 'g', 'g'), `\x{10ffff}]`: ranges(api.MaxPoint, api.MaxPoint), `\u00e9]`: ranges(233, 233), `\x41-\x43]`: ranges('A', 'C'), `A-\x{43}]`: ranges('A', 'C'), `\x{41}-C]`: ranges('A', 'C'), `A-\]]`: ranges('A', ']'), `A-\[]`: ranges('A', '['), `!-\&&]`: ranges('!', '&'), `\é]`: ranges(233, 233), `+-\-]`: ranges('+', '-'), `\--a]`: ranges('-', 'a'), `a-c\-e]`: ranges('-', '-', 'a', 'c', 'e', 'e'),
	} {
		means(t, api.DialectRuby, s, false, want)
		means(t, api.DialectRuby, s, true, folded(want))
		means(t, api.DialectRuby, "^"+s, false, not(want))
		means(t, api.DialectRuby, "["+s+"]", false, want)
		means(t, api.DialectRuby, "[^"+s+"]", true, not(folded(want)))
	}
}

// F3: expressions within others, and parts.
func TestWithin(t *testing.T) {
	vowels := ranges('a', 'a', 'e', 'e', 'i', 'i', 'o', 'o', 'u', 'u')
	for s, want := range map[string][]api.Range{
		"[a]]": ranges('a', 'a'), "[a]b]": ranges('a', 'b'), "a[b]c]": ranges('a', 'c'), "[a][c]]": ranges('a', 'a', 'c', 'c'), "[^a]]": not(ranges('a', 'a')), "[^a]a]": ranges(0, api.MaxPoint), "[[[a]b]c]d]": ranges('a', 'd'), "[]]]": ranges(']', ']'), "[]a]b]": ranges(']', ']', 'a', 'b'), "[^]a]]": not(ranges(']', ']', 'a', 'a')), "][a]]": ranges(']', ']', 'a', 'a'),
		"[a-c]-e]": ranges('-', '-', 'a', 'c', 'e', 'e'), "[a]-]": ranges('-', '-', 'a', 'a'), "[[:digit:]]]": class("digit"), "[-]]": ranges('-', '-'), "[a-]b]": ranges('-', '-', 'a', 'b'), "[\\]]]": ranges(']', ']'), "[:digit:][a]]": union(class("digit"), ranges('a', 'a')),
		"a-c&&b-d]": ranges('b', 'c'), "a&&b]": nil, "a-e&&b-f&&c-g]": ranges('c', 'e'), "a-e&&[^c]]": ranges('a', 'b', 'd', 'e'), "[^c]&&a-e]": ranges('a', 'b', 'd', 'e'), "a-z&&[^aeiou]]": must(set.Less(ranges('a', 'z'), vowels)), "\\w&&\\D&&[:ascii:]]": ranges('A', 'Z', '_', '_', 'a', 'z'), "a-cx&&[b-d]x]": ranges('b', 'c', 'x', 'x'),
		"]-a&&^]": ranges('^', '^'), "a^&&^b]": ranges('^', '^'), "a&&-]": nil, "-a&&-]": ranges('-', '-'), "a-c-&&-]": ranges('-', '-'), "-&&-]": ranges('-', '-'), "a-c&&-b]": ranges('b', 'b'),
		"a&&&]": nil, "a&b&&&b]": ranges('&', '&', 'b', 'b'), "[a-c&&b]z]": ranges('b', 'b', 'z', 'z'), "[a&&b]&&[c]]": nil, "a-z&&[b-y&&[c-x&&[^d-w]]]]": ranges('c', 'c', 'x', 'x'), "&a&&&]": ranges('&', '&'),
	} {
		means(t, api.DialectRuby, s, false, want)
		means(t, api.DialectRuby, "^"+s, false, not(want))
		means(t, api.DialectRuby, "[^"+s+"]", false, not(want))
		means(t, api.DialectRuby, "^[^"+s+"]", false, want)
	}
}

// F1, F3: when what is folded is folded.
func TestFolded(t *testing.T) {
	k, a := ranges('K', 'K', 'k', 'k', 8490, 8490), ranges('A', 'A', 'a', 'a')
	for s, want := range map[string][]api.Range{
		"k]": k, "K]": k, "\u212a]": k, "^k]": not(k), "[k]]": k, "[^k]]": not(k), "^[^k]]": k, "^[^[^k]]]": not(k), "[^k]K]": ranges(0, api.MaxPoint), "[^k][^a]]": ranges(0, api.MaxPoint), "a-ck]": union(ranges('A', 'C', 'a', 'c'), k),
		"k&&K]": k, "k&&[K]]": k, "[k]&&[K]]": k, "a-z&&A-Z]": folded(ranges('a', 'z')), "a-z&&[^K]]": must(set.Less(folded(ranges('a', 'z')), k)), "[^k]&&[^K]]": not(k), "^k&&K]": not(k), "^a&&k]": ranges(0, api.MaxPoint), "[^k]&&K]": nil, "\u212a&&k]": k, "\\w&&[:ascii:]]": union(ranges('0', '9', 'A', 'Z', '_', '_', 'a', 'z'), k), "[a&&A]]": a, "a&&A&&a-z]": a,
		"ß-ý]": ranges(192, 214, 216, 221, 223, 253, 7838, 7838, 8491, 8491),
	} {
		means(t, api.DialectRuby, s, true, want)
	}
}
