package match_test

import (
	"fmt"
	"slices"
	"strings"
	"testing"

	"thicket/api"
	"thicket/match"
	"thicket/parse"
)

func pts(s string) []int {
	var l []int
	for _, c := range s {
		l = append(l, int(c))
	}
	return l
}

func parsed(t *testing.T, s string) api.Pattern {
	t.Helper()
	p, fault := parse.Parse(api.DialectRuby, pts(s), false)
	if fault != (api.Fault{}) {
		t.Fatalf("%q: %v", s, fault)
	}
	return p
}

// span of a match or a group: from-to, or - where there is nothing.
func span(from, to int) string {
	if from == -1 && to == -1 {
		return "-"
	}
	return fmt.Sprintf("%d-%d", from, to)
}

// told is an answer in short: where the match is, what groups have, and how much was burnt; or an error.
func told(m api.Match, ok bool, burnt int, err api.Errno) string {
	rest := fmt.Sprintf("burnt %d", burnt)
	if !ok {
		if m.From != 0 || m.To != 0 || len(m.Groups) != 0 {
			return fmt.Sprintf("no match, but %v", m)
		}
		if err != api.OK {
			rest += fmt.Sprintf(", error %d", err)
		}
		return "none; " + rest
	}
	l := []string{span(m.From, m.To)}
	for _, g := range m.Groups {
		l = append(l, span(g.From, g.To))
	}
	if err != api.OK {
		rest += fmt.Sprintf(", matched with error %d", err)
	}
	return strings.Join(l, " ") + "; " + rest
}

func failed(err api.Errno) string { return fmt.Sprintf("none; burnt 0, error %d", err) }

type asked struct {
	pattern, text string
	at            int
	want          string
}

func answered(t *testing.T, l []asked) {
	t.Helper()
	for _, c := range l {
		if s := told(match.At(parsed(t, c.pattern), api.EncUTF8, c.text, c.at, api.MaxFuel)); s != c.want {
			t.Errorf("%q on %.20q at %d: %s, must be %s", c.pattern, c.text, c.at, s, c.want)
		}
	}
}

// J2, J3: what takes points, or nothing; rows and either.
func TestTaken(t *testing.T) {
	answered(t, []asked{
		{"", "", 0, "0-0; burnt 1"},
		{"", "a", 1, "1-1; burnt 1"},
		{"a", "a", 0, "0-1; burnt 1"},
		{"a", "ba", 0, "none; burnt 1"},
		{"a", "ba", 1, "1-2; burnt 1"},
		{"a", "a", 1, "none; burnt 1"},
		{"[^a]", "é", 0, "0-2; burnt 1"},
		{"[b-dx]", "c", 0, "0-1; burnt 1"},
		{"[b-dx]", "x", 0, "0-1; burnt 1"},
		{"[b-dx]", "e", 0, "none; burnt 1"},
		{`[^\x{0}-\x{10ffff}]`, "a", 0, "none; burnt 1"},
		{`[\x{0}-\x{10ffff}]`, "\U0010ffff", 0, "0-4; burnt 1"},
		{".", "\n", 0, "none; burnt 1"},
		{"ab", "ab", 0, "0-2; burnt 3"},
		{"ab", "ac", 0, "none; burnt 3"},
		{"ab", "b", 0, "none; burnt 2"},
		{"abc", "abd", 0, "none; burnt 4"},
		{"a|b", "a", 0, "0-1; burnt 2"},
		{"a|b", "b", 0, "0-1; burnt 3"},
		{"a|b|c", "d", 0, "none; burnt 4"},
		{"a|ab", "ab", 0, "0-1; burnt 2"},
		{"|a", "a", 0, "0-0; burnt 2"},
		{"a|", "b", 0, "0-0; burnt 3"},
		{"(?:a|ab)c", "abc", 0, "0-3; burnt 8"},
		{"(?:a|b)(?:c|d)", "bd", 0, "0-2; burnt 7"},
	})
}

// J2, J3: groups: what they took last, and what they had, if that way led nowhere.
func TestGroups(t *testing.T) {
	answered(t, []asked{
		{"(a|ab)c", "abc", 0, "0-3 0-2; burnt 9"},
		{"(a)", "xa", 1, "1-2 1-2; burnt 2"},
		{"()", "x", 1, "1-1 1-1; burnt 2"},
		{"(é)(a)", "éa", 0, "0-3 0-2 2-3; burnt 5"},
		{"((a)b)", "ab", 0, "0-2 0-2 0-1; burnt 5"},
		{"(a)*", "aa", 0, "0-2 1-2; burnt 7"},
		{"(a)*", "b", 0, "0-0 -; burnt 3"},
		{"(a)|(b)", "b", 0, "0-1 - 0-1; burnt 5"},
		{"(a)b|ac", "ac", 0, "0-2 -; burnt 8"},
		{"(?:(a)|b)*", "ab", 0, "0-2 0-1; burnt 12"},
		// While it is looked for, a group has what it had.
		{`(?:(a|\1b)){2}`, "aab", 0, "0-2 1-2; burnt 7"},
		{`(?:(a|\1b)){3}`, "aab", 0, "none; burnt 22"},
		{`(?:(b|\1a)){2}`, "bba", 0, "0-2 1-2; burnt 7"},
		{`(a|\1b)*c`, "aabc", 0, "0-4 1-3; burnt 23"},
		{`(a|\1b)*c`, "aaabc", 0, "0-5 2-4; burnt 26"},
		{`(a|\1\1)*c`, "aaac", 0, "0-4 2-3; burnt 17"},
	})
}

// J2, J3: rounds.
func TestRepeats(t *testing.T) {
	answered(t, []asked{
		{"a*", "", 0, "0-0; burnt 2"},
		{"a*", "aab", 0, "0-2; burnt 4"},
		{"a+", "b", 0, "none; burnt 2"},
		{"a?", "aa", 0, "0-1; burnt 2"},
		{"a{0}", "a", 0, "0-0; burnt 1"},
		{"(a){0}", "a", 0, "0-0 -; burnt 1"},
		{"a{2}", "aaa", 0, "0-2; burnt 3"},
		{"a{2}", "ab", 0, "none; burnt 3"},
		{"a{1,2}", "aaa", 0, "0-2; burnt 3"},
		{"a{1,2}?", "aaa", 0, "0-1; burnt 2"},
		{"a{1,2}+", "aaa", 0, "0-2; burnt 3"},
		{"a{1,2}a", "aa", 0, "0-2; burnt 6"},
		{"a{1,2}?a", "aa", 0, "0-2; burnt 4"},
		{"a{1,2}+a", "aa", 0, "none; burnt 5"},
		{"a*?b", "aab", 0, "0-3; burnt 7"},
		{"a??b", "ab", 0, "0-2; burnt 5"},
		{"a*?", "aa", 0, "0-0; burnt 1"},
		{"a{2,}?", "aaa", 0, "0-2; burnt 3"},
		{"a*+a", "aaa", 0, "none; burnt 7"},
		{"a?+a", "a", 0, "none; burnt 4"},
		{"a*a", "aa", 0, "0-2; burnt 7"},
		{"(?:a|ab)*+c", "abc", 0, "none; burnt 9"},
		{"(?:a|ab)*c", "abc", 0, "0-3; burnt 17"},
		{"(?:a|ab)*?c", "abc", 0, "0-3; burnt 14"},
	})
}

// J2: a round beyond Least that ends where it began is none; one below Least is.
func TestEmptyRounds(t *testing.T) {
	answered(t, []asked{
		{"(?:)*", "a", 0, "0-0; burnt 2"},
		{"(?:){3}", "a", 0, "0-0; burnt 4"},
		{"(?:){3,}", "a", 0, "0-0; burnt 5"},
		{"(?:){3,5}", "a", 0, "0-0; burnt 5"},
		{"(?:){3,5}+", "a", 0, "0-0; burnt 5"},
		{"(?:){3,5}?", "a", 0, "0-0; burnt 4"},
		{"(?:){3,5}?a", "a", 0, "0-1; burnt 6"},
		{"(?:){0,5}?b", "a", 0, "none; burnt 4"},
		{"(?:|a)*", "aa", 0, "0-2; burnt 10"},
		{"(?:|a){2}", "aa", 0, "0-0; burnt 5"},
		{"(?:|a){2}b", "ab", 0, "0-2; burnt 9"},
		{"()*", "a", 0, "0-0 -; burnt 3"},
		{"()+", "a", 0, "0-0 0-0; burnt 5"},
		{"(a*)*", "a", 0, "0-1 0-1; burnt 8"},
		{"(a*)+", "a", 0, "0-1 0-1; burnt 8"},
		{"(a*)+", "b", 0, "0-0 0-0; burnt 7"},
		{"(?:^)*a", "a", 0, "0-1; burnt 4"},
		{"(?:(?=a))*a", "a", 0, "0-1; burnt 5"},
	})
}

// J2, J3: what is taken once and for all, and what looks ahead.
func TestAtomicAndAhead(t *testing.T) {
	answered(t, []asked{
		{"(?>a|ab)c", "abc", 0, "none; burnt 5"},
		{"(?>(a|ab))c", "ac", 0, "0-2 0-1; burnt 6"},
		{"(?>(a|ab))c", "abc", 0, "none; burnt 6"},
		{"(?>a*)a", "aa", 0, "none; burnt 7"},
		{"(?:(?>a)|ab)c", "abc", 0, "0-3; burnt 9"},
		{"(?:x|(?>a|b))", "b", 0, "0-1; burnt 6"},
		{"(?=ab)a", "ab", 0, "0-1; burnt 6"},
		{"(?=ab)a", "ac", 0, "none; burnt 5"},
		{"(?=ab)", "ab", 0, "0-0; burnt 4"},
		{`(?=(a|ab))\1c`, "abc", 0, "none; burnt 7"},
		{`(?=(a|ab))\1b`, "abc", 0, "0-2 0-1; burnt 7"},
		{"(?=(a))b|ac", "ac", 0, "0-2 -; burnt 9"},
		{"(?!ab)a", "ac", 0, "0-1; burnt 6"},
		{"(?!ab)a", "ab", 0, "none; burnt 5"},
		{"(?!(a)b)a", "ac", 0, "0-1 -; burnt 7"},
		{"(?!(a)|b)c|a", "a", 0, "0-1 -; burnt 7"},
		{"(?!(?!(a)))a", "a", 0, "0-1 -; burnt 6"},
		{"(?!)", "a", 0, "none; burnt 2"},
		{"(?:a(?!b)|ab)c", "abc", 0, "0-3; burnt 10"},
		{"(?=a|ab)(?:a|ab)c", "abc", 0, "0-3; burnt 11"},
	})
}

// J2, J3: what looks back: the fewest points first, and only ways that end where one is.
func TestBehind(t *testing.T) {
	answered(t, []asked{
		{"(?<=a)b", "ab", 1, "1-2; burnt 4"},
		{"(?<=a)b", "b", 0, "none; burnt 2"},
		{"(?<=)b", "b", 0, "0-1; burnt 4"},
		{"(?<=a|bc)d", "bcd", 2, "2-3; burnt 12"},
		{"(?<=(a|ab))c", "abc", 2, "2-3 0-2; burnt 14"},
		{`(?<=(b|ab))\1`, "abab", 2, "none; burnt 6"},
		{`(?<=(b|ab))\1`, "abba", 2, "2-3 1-2; burnt 6"},
		{"(?<=(a{1,3}))b", "aaab", 3, "3-4 2-3; burnt 7"},
		{"(?<=c(a{1,3}))b", "caab", 3, "3-4 1-3; burnt 12"},
		{"(?<=a{2})b", "aaab", 1, "none; burnt 2"},
		{"(?<=é)a", "éa", 2, "2-3; burnt 4"},
		{"(?<=a*{0})b", "b", 0, "0-1; burnt 4"},
		{"(?<=(?<=a)b)c", "abc", 2, "2-3; burnt 7"},
		{"(?<=a(?=b))b", "ab", 1, "1-2; burnt 7"},
		{"(?<=^a)b", "ab", 1, "1-2; burnt 6"},
		{"(?<!a)b", "b", 0, "0-1; burnt 3"},
		{"(?<!a)b", "ab", 1, "none; burnt 3"},
		{"(?<!a)b", "cb", 1, "1-2; burnt 4"},
		{"(?<!(a)c)b", "aab", 2, "2-3 -; burnt 7"},
		{"(?<!a|ca)b", "cab", 2, "none; burnt 4"},
		{"(?<!)b", "b", 0, "none; burnt 3"},
		{"(?<!c?+)b", "cb", 1, "none; burnt 4"},
		{"(?<!c?+a)b", "cab", 2, "none; burnt 6"},
	})
}

// J2: the points of a group once more.
func TestAgain(t *testing.T) {
	kelvin := "\u212a"
	answered(t, []asked{
		{`\1(a)`, "aa", 0, "none; burnt 2"},
		{`()\1a`, "a", 0, "0-1 0-0; burnt 5"},
		{`(ab)\1`, "abab", 0, "0-4 0-2; burnt 6"},
		{`(ab)\1`, "aba", 0, "none; burnt 6"},
		{`(ab)\1`, "abac", 0, "none; burnt 6"},
		{`(a)\1`, "aA", 0, "none; burnt 4"},
		{`(a)(?i:\1)`, "aA", 0, "0-2 0-1; burnt 4"},
		{`(a)(?i:\1)`, "ab", 0, "none; burnt 4"},
		{`(a)(?i:\1)`, "a", 0, "none; burnt 4"},
		{`(..)(?i:\1)`, "kéÉK", 0, "none; burnt 6"},
		{`(..)(?i:\1)`, "kéKÉ", 0, "0-6 0-3; burnt 6"},
		{`(k)(?i:\1)b`, "k" + kelvin + "b", 0, "0-5 0-1; burnt 5"},
		{`(.)(?i:\1)b`, kelvin + "kb", 0, "0-5 0-3; burnt 5"},
		{`(.)(?i:\1)`, "ßẞ", 0, "0-5 0-2; burnt 4"},
		{`(.)(?i:\1)`, "ςΣ", 0, "0-4 0-2; burnt 4"},
		{`(?:(a)|b)*\1`, "aba", 0, "0-3 0-1; burnt 19"},
		{`(?=(a*))\1b`, "aab", 0, "0-3 0-2; burnt 9"},
		{`(a\1?){2}`, "aaaa", 0, "0-3 1-3; burnt 11"},
	})
}

// placesOf a text at which a pattern matches, taking nothing.
func placesOf(t *testing.T, pattern, text string) string {
	t.Helper()
	var l []string
	for at := range len(text) + 1 {
		switch s := told(match.At(parsed(t, pattern), api.EncLatin1, text, at, 1)); s {
		case span(at, at) + "; burnt 1":
			l = append(l, fmt.Sprint(at))
		case "none; burnt 1":
		default:
			t.Errorf("%q on %q at %d: %s", pattern, text, at, s)
		}
	}
	return strings.Join(l, " ")
}

// J2: what looks at a place.
func TestLooks(t *testing.T) {
	for _, c := range [][3]string{
		{"^", "", "0"}, {"$", "", "0"}, {`\A`, "", "0"}, {`\z`, "", "0"}, {`\b`, "", ""}, {`\B`, "", "0"},
		{"^", "ab\n\nc\r\n", "0 3 4 7"}, {"$", "ab\n\nc\r\n", "2 3 6 7"}, {`\A`, "a\nb", "0"}, {`\z`, "a\nb\n", "4"},
		{`\b`, "ab", "0 2"}, {`\B`, "ab", "1"}, {`\b`, "--", ""}, {`\B`, "--", "0 1 2"},
		{`\b`, "a-_9 \xe9z\xd7", "0 1 2 4 5 7"}, {`\B`, "a-_9 \xe9z\xd7", "3 6 8"},
	} {
		if s := placesOf(t, c[0], c[1]); s != c[2] {
			t.Errorf("%s of %q: %s, must be %s", c[0], c[1], s, c[2])
		}
	}
	answered(t, []asked{
		{`\b`, "\u0661", 0, "0-0; burnt 1"},
		{`\b`, "\u0661", 2, "2-2; burnt 1"},
		{`\b`, "\u0660a", 2, "none; burnt 1"},
		{`\b`, "\u2028a", 3, "3-3; burnt 1"},
		{`\b`, "\U0001f600", 0, "none; burnt 1"},
	})
}

// J4: all errors, in their order.
func TestErrors(t *testing.T) {
	right, wrong := parsed(t, "(a)."), parsed(t, "(a).")
	wrong.Groups = 2
	wide, none := parsed(t, "(?<=a*)b"), parsed(t, "a")
	none.Names = []api.Name{{Text: "x", Number: 1}}
	long := strings.Repeat("a", api.MaxText)
	for _, c := range []struct {
		p        api.Pattern
		enc      int
		text     string
		at, fuel int
		want     string
	}{
		{wrong, 1, "ab", 0, 9, failed(api.ErrState)},
		{wrong, 0, long + "a", -1, -1, failed(api.ErrState)},
		{api.Pattern{}, 0, "\xff", -1, -1, failed(api.ErrKind)},
		{none, 0, "\xff", -1, -1, failed(api.ErrNone)},
		{wide, 1, "ab", 1, 9, failed(api.ErrWidth)},
		{wide, 0, "\xff", -1, -1, failed(api.ErrWidth)},
		{right, 0, long + "a", -1, -1, failed(api.ErrKind)},
		{right, 5, "ab", 0, 9, failed(api.ErrKind)},
		{right, -1 << 63, "ab", 0, 9, failed(api.ErrKind)},
		{right, 1, long + "\xff", -1, -1, failed(api.ErrMany)},
		{right, 1, long, 0, 9, "0-2 0-1; burnt 4"},
		{right, 1, long, api.MaxText - 2, 9, "3998-4000 3998-3999; burnt 4"},
		{right, 1, "ab\xff", -1, -1, failed(api.ErrForm)},
		{right, 1, "ab\xff", 0, 9, failed(api.ErrForm)},
		{right, 2, "a\x00b", 0, 9, failed(api.ErrForm)},
		{right, 1, "ab", -1, 9, failed(api.ErrRange)},
		{right, 1, "ab", 3, 9, failed(api.ErrRange)},
		{right, 1, "ab", 1<<63 - 1, 9, failed(api.ErrRange)},
		{right, 1, "ab", -1 << 63, 9, failed(api.ErrRange)},
		{right, 1, "éab", 1, 9, failed(api.ErrRange)},
		{right, 2, "a\x00b\x00", 1, 9, failed(api.ErrRange)},
		{right, 3, "\xd8\x3d\xde\x00", 2, 9, failed(api.ErrRange)},
		{right, 1, "ab", 0, -1, failed(api.ErrRange)},
		{right, 1, "ab", 0, api.MaxFuel + 1, failed(api.ErrRange)},
		{right, 1, "ab", 0, 1<<63 - 1, failed(api.ErrRange)},
		{right, 1, "ab", 0, api.MaxFuel, "0-2 0-1; burnt 4"},
		{right, 1, "ab", 0, 4, "0-2 0-1; burnt 4"},
		{right, 1, "ab", 0, 3, failed(api.ErrFuel)},
		{right, 1, "ab", 0, 0, failed(api.ErrFuel)},
		{right, 1, "b", 0, 3, "none; burnt 3"},
		{right, 1, "b", 0, 2, failed(api.ErrFuel)},
		{right, 1, "ab", 2, 3, "none; burnt 3"},
		{right, 2, "a\x00\xe9\x00", 0, 9, "0-4 0-2; burnt 4"},
		{right, 3, "\x00a\xd8\x3d\xde\x00", 0, 9, "0-6 0-2; burnt 4"},
		{right, 4, "a\xff", 0, 9, "0-2 0-1; burnt 4"},
	} {
		if s := told(match.At(c.p, c.enc, c.text, c.at, c.fuel)); s != c.want {
			t.Errorf("encoding %d, %.20q at %d, fuel %d: %s, must be %s", c.enc, c.text, c.at, c.fuel, s, c.want)
		}
	}
}

// P1: trees that are too great, or go round and round, are told of like all others.
func TestRoundAndRound(t *testing.T) {
	kids := make([]api.Node, 1)
	kids[0] = api.Node{Kind: api.NodeAtomic, Kids: kids}
	if s := told(match.At(api.Pattern{Tree: kids[0]}, api.EncUTF8, "", 0, 9)); s != failed(api.ErrMany) {
		t.Error(s)
	}
}

// J3, J4: long searches, up to the last bit of fuel there may be.
func TestLong(t *testing.T) {
	long := strings.Repeat("a", api.MaxText)
	answered(t, []asked{
		{"a*", long, 0, "0-4000; burnt 4002"},
		{"(a)*b", long, 0, "none; burnt 12005"},
		{"(?:a|b)*?c", long, 0, "none; burnt 16006"},
		{"(?:){99}{99}{99}", "", 0, "0-0; burnt 980200"},
		{"(?:){100}{100}{100}", "", 0, failed(api.ErrFuel)},
		{"(|a){68}{68}{68}", "", 0, "0-0 0-0; burnt 947989"},
		{"(?:(?>|a)){67}{67}{67}", long, 0, "0-0; burnt 906846"},
		{"(a*)*b", long, 0, failed(api.ErrFuel)},
		{`(?i)(?=(a*))(?:(?=\1)){99}{99}{9}`, long, 0, "0-0 0-4000; burnt 181324"},
		{"(?:(?<=a{99}b?)){9}{9}{9}", long, 2000, "2000-2000; burnt 75907"},
	})
}

// P2, P3: what is handed in is only read, what comes out is the caller's, and each answer is the same each time.
func TestMemory(t *testing.T) {
	build := func() api.Pattern {
		p := parsed(t, `(a)(?<x>[b-dx]+)|\1(?i:\k<x>)`)
		p.Tree.Kids = append(p.Tree.Kids, api.Node{Kind: 99})[:2]
		p.Names = append(p.Names, api.Name{Text: "spare"})[:1]
		return p
	}
	p := build()
	for range 3 {
		m, ok, burnt, err := match.At(p, api.EncUTF8, "abbx", 0, 100)
		if s := told(m, ok, burnt, err); s != "0-4 0-1 1-4; burnt 10" {
			t.Errorf("again: %s", s)
		}
		clear(m.Groups[:cap(m.Groups)])
	}
	keep := build()
	p.Tree.Kids, keep.Tree.Kids = p.Tree.Kids[:3], keep.Tree.Kids[:3]
	if fmt.Sprint(p) != fmt.Sprint(keep) || !slices.Equal(p.Names[:2], keep.Names[:2]) {
		t.Error("what was handed in is changed")
	}
}
