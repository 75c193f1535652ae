package find_test

import (
	"fmt"
	"slices"
	"strings"
	"testing"
	"unsafe"

	"thicket/api"
	"thicket/find"
	"thicket/parse"
)

func pts(s string) []int {
	var l []int
	for _, c := range s {
		l = append(l, int(c))
	}
	return l
}

func parsed(t *testing.T, s string) api.Pattern {
	t.Helper()
	p, fault := parse.Parse(api.DialectRuby, pts(s), false)
	if fault != (api.Fault{}) {
		t.Fatalf("%q: %v", s, fault)
	}
	return p
}

func span(from, to int) string {
	if from == -1 && to == -1 {
		return "-"
	}
	return fmt.Sprintf("%d-%d", from, to)
}

// found is a match in short.
func found(m api.Match) string {
	l := []string{span(m.From, m.To)}
	for _, g := range m.Groups {
		l = append(l, span(g.From, g.To))
	}
	return strings.Join(l, " ")
}

// told is an answer of Search in short.
func told(m api.Match, ok bool, burnt int, err api.Errno) string {
	s := "none"
	if ok {
		s = found(m)
	} else if m.From != 0 || m.To != 0 || len(m.Groups) != 0 {
		s = fmt.Sprintf("none, but %v", m)
	}
	return ended(s, burnt, err)
}

// toldAll is an answer of All in short.
func toldAll(l []api.Match, burnt int, err api.Errno) string {
	var all []string
	for _, m := range l {
		all = append(all, found(m))
	}
	return ended(strings.Join(all, ", "), burnt, err)
}

func toldText(s string, burnt int, err api.Errno) string {
	return ended(fmt.Sprintf("%q", s), burnt, err)
}

func ended(s string, burnt int, err api.Errno) string {
	if err != api.OK {
		return fmt.Sprintf("%s; burnt %d, error %d", s, burnt, err)
	}
	return fmt.Sprintf("%s; burnt %d", s, burnt)
}

func failed(s string, err api.Errno) string { return ended(s, 0, err) }

// L1: the first place at which there is a match, and the fuel of all places.
func TestSearch(t *testing.T) {
	for _, c := range []struct {
		pattern, text string
		from          int
		want          string
	}{
		{"", "", 0, "0-0; burnt 1"},
		{"", "ab", 2, "2-2; burnt 1"},
		{"a", "", 0, "none; burnt 1"},
		{"b", "abcb", 0, "1-2; burnt 2"},
		{"b", "abcb", 1, "1-2; burnt 1"},
		{"b", "abcb", 2, "3-4; burnt 2"},
		{"b", "abcb", 4, "none; burnt 1"},
		{"d", "abcb", 0, "none; burnt 5"},
		{"d", "abcb", 3, "none; burnt 2"},
		{`\z`, "abc", 1, "3-3; burnt 3"},
		{"(?<=b)", "abc", 0, "2-2; burnt 5"},
		{"^", "a\nb", 1, "2-2; burnt 2"},
		{"b", "é\U0001f600b", 0, "6-7; burnt 3"},
		{"b", "é\U0001f600b", 2, "6-7; burnt 2"},
		{"(a)|(b)", "cb", 0, "1-2 - 1-2; burnt 10"},
		{"(a|ab)c", "abac", 0, "2-4 2-3; burnt 20"},
	} {
		if s := told(find.Search(parsed(t, c.pattern), api.EncUTF8, c.text, c.from, 1000)); s != c.want {
			t.Errorf("%q in %q from %d: %s, must be %s", c.pattern, c.text, c.from, s, c.want)
		}
	}
}

// L2: matches one behind the other.
func TestAll(t *testing.T) {
	for _, c := range []struct{ pattern, text, want string }{
		{"a", "", "; burnt 1"},
		{"", "", "0-0; burnt 1"},
		{"b", "abcb", "1-2, 3-4; burnt 5"},
		{"aa", "aaaaa", "0-2, 2-4; burnt 11"},
		{"", "ab", "0-0, 1-1, 2-2; burnt 3"},
		{"", "é\U0001f600", "0-0, 2-2, 6-6; burnt 3"},
		{"a*", "ab", "0-1, 1-1, 2-2; burnt 7"},
		{"a*", "baac", "0-0, 1-3, 3-3, 4-4; burnt 10"},
		{"a*?", "aa", "0-0, 1-1, 2-2; burnt 3"},
		{"a|", "aba", "0-1, 1-1, 2-3, 3-3; burnt 10"},
		{"$", "a\nb\n", "1-1, 3-3, 4-4; burnt 5"},
		{"(a)|b", "cab", "1-2 1-2, 2-3 -; burnt 15"},
		{`\b`, "ab c", "0-0, 2-2, 3-3, 4-4; burnt 5"},
	} {
		if s := toldAll(find.All(parsed(t, c.pattern), api.EncUTF8, c.text, 1000)); s != c.want {
			t.Errorf("%q in %q: %s, must be %s", c.pattern, c.text, s, c.want)
		}
	}
	long := strings.Repeat("a", api.MaxText)
	if l, burnt, err := find.All(parsed(t, ""), api.EncUTF8, long, api.MaxText+1); len(l) != api.MaxText+1 || burnt != api.MaxText+1 || err != api.OK {
		t.Errorf("all places: %d, burnt %d, error %d", len(l), burnt, err)
	}
	if s := toldAll(find.All(parsed(t, ""), api.EncUTF8, long, api.MaxText)); s != failed("", api.ErrFuel) {
		t.Error(s)
	}
}

// L1, L2, L4: fuel is that of all places, and of all matches, together.
func TestFuel(t *testing.T) {
	p, text := parsed(t, "b"), "abcb"
	for fuel := range 8 {
		search, from2, all, replaced := "1-2; burnt 2", "3-4; burnt 2", "1-2, 3-4; burnt 5", `"a.c."; burnt 5`
		split, splitErr := []string{"a", "c", ""}, api.OK
		if fuel < 2 {
			search, from2 = failed("none", api.ErrFuel), failed("none", api.ErrFuel)
		}
		if fuel < 5 {
			all, replaced = failed("", api.ErrFuel), failed(`""`, api.ErrFuel)
			split, splitErr = nil, api.ErrFuel
		}
		if s := told(find.Search(p, api.EncUTF8, text, 0, fuel)); s != search {
			t.Errorf("Search with %d: %s, must be %s", fuel, s, search)
		}
		if s := told(find.Search(p, api.EncUTF8, text, 2, fuel)); s != from2 {
			t.Errorf("Search from 2 with %d: %s, must be %s", fuel, s, from2)
		}
		if s := toldAll(find.All(p, api.EncUTF8, text, fuel)); s != all {
			t.Errorf("All with %d: %s, must be %s", fuel, s, all)
		}
		if s := toldText(find.Replace(p, api.EncUTF8, text, ".", fuel)); s != replaced {
			t.Errorf("Replace with %d: %s, must be %s", fuel, s, replaced)
		}
		if l, err := find.Split(p, api.EncUTF8, text, fuel); !slices.Equal(l, split) || err != splitErr {
			t.Errorf("Split with %d: %q, error %d", fuel, l, err)
		}
	}
}

// errorsOf the calls that look for matches, all of them handed the same: Search, All, Replace, Split.
func errorsOf(t *testing.T, p api.Pattern, enc int, text, with string, from, fuel int) [4]api.Errno {
	t.Helper()
	m, ok, n, e1 := find.Search(p, enc, text, from, fuel)
	if e1 != api.OK && told(m, ok, n, e1) != failed("none", e1) {
		t.Errorf("Search with error %d: %v %v %d", e1, m, ok, n)
	}
	l, n, e2 := find.All(p, enc, text, fuel)
	if e2 != api.OK && (len(l) != 0 || n != 0) {
		t.Errorf("All with error %d: %v %d", e2, l, n)
	}
	s, n, e3 := find.Replace(p, enc, text, with, fuel)
	if e3 != api.OK && (s != "" || n != 0) {
		t.Errorf("Replace with error %d: %q %d", e3, s, n)
	}
	parts, e4 := find.Split(p, enc, text, fuel)
	if e4 != api.OK && len(parts) != 0 {
		t.Errorf("Split with error %d: %q", e4, parts)
	}
	return [4]api.Errno{e1, e2, e3, e4}
}

// L1, L2, L4: errors, in their order.
func TestErrors(t *testing.T) {
	all := func(e api.Errno) [4]api.Errno { return [4]api.Errno{e, e, e, e} }
	right, wrong, wide := parsed(t, "(?<x>a)|b"), parsed(t, "a"), parsed(t, "(?<=a*)b")
	wrong.Groups = 1
	long := strings.Repeat("a", api.MaxText)
	for i, c := range []struct {
		p          api.Pattern
		enc        int
		text, with string
		from, fuel int
		want       [4]api.Errno
	}{
		{right, 1, "ab", `\0`, 0, 100, all(api.OK)},
		{wrong, 0, "\xff", "\xff", -1, -1, all(api.ErrState)},
		{wide, 0, "\xff", "\xff", -1, -1, all(api.ErrWidth)},
		{api.Pattern{}, 0, "\xff", "\xff", -1, -1, all(api.ErrKind)},
		{right, 0, long + "a", "\xff", -1, -1, all(api.ErrKind)},
		{right, 5, "ab", "", 0, 100, all(api.ErrKind)},
		{right, 1, long + "\xff", "\xff", -1, -1, all(api.ErrMany)},
		{right, 1, "a\xff", long + "a", -1, -1, all(api.ErrForm)},
		{right, 2, "abc", "\\\x00", -1, -1, all(api.ErrForm)},
		{right, 1, "ab", long + "a", 0, -1, [4]api.Errno{api.ErrRange, api.ErrRange, api.ErrMany, api.ErrRange}},
		{right, 1, "ab", "\\9\xff", 0, -1, [4]api.Errno{api.ErrRange, api.ErrRange, api.ErrForm, api.ErrRange}},
		{right, 1, "ab", `\`, 0, -1, [4]api.Errno{api.ErrRange, api.ErrRange, api.ErrForm, api.ErrRange}},
		{right, 1, "ab", `\2\`, 0, -1, [4]api.Errno{api.ErrRange, api.ErrRange, api.ErrNone, api.ErrRange}},
		{right, 1, "ab", `\k<y>`, 0, 0, [4]api.Errno{api.ErrFuel, api.ErrFuel, api.ErrNone, api.ErrFuel}},
		{right, 1, "ab", "", 0, -1, all(api.ErrRange)},
		{right, 1, "ab", "", 0, api.MaxFuel + 1, all(api.ErrRange)},
		{right, 1, "ab", "", 0, -1 << 63, all(api.ErrRange)},
		{right, 1, "ab", "", 0, api.MaxFuel, all(api.OK)},
		{right, 1, "ab", "", 3, 100, [4]api.Errno{api.ErrRange}},
		{right, 1, "ab", "", -1, 100, [4]api.Errno{api.ErrRange}},
		{right, 1, "éa", "", 1, 100, [4]api.Errno{api.ErrRange}},
		{right, 2, "a\x00b\x00", "", 1, 100, [4]api.Errno{api.ErrRange}},
		{right, 1, "ab", "", 1<<63 - 1, 100, [4]api.Errno{api.ErrRange}},
		{right, 1, "ab", "", 0, 0, all(api.ErrFuel)},
		{right, 1, "a" + long[2:], long, 0, 4, [4]api.Errno{api.OK, api.ErrFuel, api.ErrFuel, api.ErrFuel}},
		{right, 1, "aa", long, 0, 100, [4]api.Errno{2: api.ErrMany}},
		{right, 1, "aac", long[:2000], 0, 100, [4]api.Errno{2: api.ErrMany}},
		{right, 1, "aac", long[:1999], 0, 100, all(api.OK)},
		{right, 1, long, strings.Repeat(`\0`, 2000), 0, api.MaxFuel, [4]api.Errno{2: api.ErrMany}},
	} {
		if e := errorsOf(t, c.p, c.enc, c.text, c.with, c.from, c.fuel); e != c.want {
			t.Errorf("%d: errors %d, must be %d", i, e, c.want)
		}
	}
}

// L3: what becomes of a template, and what is wrong with one, from the left.
func TestExpand(t *testing.T) {
	p := parsed(t, "(?<x>a)(?<y_9>b)?(c)?")
	m := api.Match{From: 1, To: 3, Groups: []api.Range{{From: 1, To: 2}, {From: -1, To: -1}, {From: 2, To: 3}}}
	name := strings.Repeat("n", 20)
	for _, c := range []struct {
		with, want string
		err        api.Errno
	}{
		{"", "", api.OK}, {"x", "x", api.OK}, {`\0`, "ac", api.OK}, {`<\0>`, "<ac>", api.OK}, {`\1`, "a", api.OK}, {`\2`, "", api.OK}, {`\3`, "c", api.OK},
		{`\10`, "a0", api.OK}, {`\00`, "ac0", api.OK}, {`\3\1\3`, "cac", api.OK},
		{`\k<x>`, "a", api.OK}, {`\k<y_9>`, "", api.OK}, {`\k<x>>`, "a>", api.OK}, {`k<x>`, "k<x>", api.OK},
		{`\\`, `\`, api.OK}, {`\\\\`, `\\`, api.OK}, {`\\0`, `\0`, api.OK}, {`\\\0`, `\ac`, api.OK}, {`\\k<x>`, `\k<x>`, api.OK},
		{"é\U0001f600\n$&", "é\U0001f600\n$&", api.OK},
		{`\`, "", api.ErrForm}, {`a\`, "", api.ErrForm}, {`\\\`, "", api.ErrForm}, {`\a`, "", api.ErrForm}, {`\ `, "", api.ErrForm}, {`\é`, "", api.ErrForm},
		{`\/`, "", api.ErrForm}, {`\:`, "", api.ErrForm}, {"\\\u0661", "", api.ErrForm}, {`\K<x>`, "", api.ErrForm}, {`\<x>`, "", api.ErrForm},
		{`\k`, "", api.ErrForm}, {`\k<`, "", api.ErrForm}, {`\k<x`, "", api.ErrForm}, {`\k<>`, "", api.ErrForm}, {`\kx>`, "", api.ErrForm}, {`\k<1>`, "", api.ErrForm},
		{`\k<x y>`, "", api.ErrForm}, {`\k<x->`, "", api.ErrForm}, {`\k<é>`, "", api.ErrForm}, {`\k<xé>`, "", api.ErrForm}, {`\k{x}`, "", api.ErrForm}, {`\k<-1>`, "", api.ErrForm},
		{`\k<` + name + `>`, "", api.ErrNone}, {`\k<` + name + `n>`, "", api.ErrForm},
		{`\4`, "", api.ErrNone}, {`\9`, "", api.ErrNone}, {`\k<z>`, "", api.ErrNone}, {`\k<X>`, "", api.ErrNone}, {`\k<y_>`, "", api.ErrNone},
		{`\4\`, "", api.ErrNone}, {`\\4`, `\4`, api.OK}, {`\k<z>\k`, "", api.ErrNone}, {`\k\4`, "", api.ErrForm}, {`\0\a\4`, "", api.ErrForm}, {`\0\4\a`, "", api.ErrNone},
	} {
		if s, err := find.Expand(p, api.EncUTF8, "xacz", c.with, m); s != c.want || err != c.err {
			t.Errorf("%q: %q, error %d, must be %q, %d", c.with, s, err, c.want, c.err)
		}
	}
}

// L3: a template in each encoding.
func TestExpandEncodings(t *testing.T) {
	p := parsed(t, "(?<x>.)")
	for _, c := range []struct {
		enc              int
		text, with, want string
		to               int
	}{
		{api.EncUTF8, "é", `\\\k<x>\1é`, `\ééé`, 2},
		{api.EncUTF16LE, "\x3d\xd8\x00\xde", "\\\x00\\\x00\\\x00k\x00<\x00x\x00>\x00a\x00", "\\\x00\x3d\xd8\x00\xdea\x00", 4},
		{api.EncUTF16BE, "\x5c\x31", "\x00\\\x00\x31\x5c\x31", "\x5c\x31\x5c\x31", 2},
		{api.EncLatin1, "\xe9", "\\1\xff\\\\", "\xe9\xff\\", 1},
	} {
		m := api.Match{To: c.to, Groups: []api.Range{{From: 0, To: c.to}}}
		if s, err := find.Expand(p, c.enc, c.text, c.with, m); s != c.want || err != api.OK {
			t.Errorf("encoding %d: %q, error %d, must be %q", c.enc, s, err, c.want)
		}
	}
}

// L3: errors of Expand, in their order; matches that may be, or not.
func TestExpandErrors(t *testing.T) {
	p, wrong, wide := parsed(t, "(a)(b)?"), parsed(t, "(a)(b)?"), parsed(t, "(?<=(a)*)(b)")
	wrong.Groups = 3
	long := strings.Repeat("a", api.MaxText)
	none := api.Range{From: -1, To: -1}
	match := func(from, to int, groups ...api.Range) api.Match {
		return api.Match{From: from, To: to, Groups: groups}
	}
	at := func(from, to int) api.Range { return api.Range{From: from, To: to} }
	good := match(0, 2, at(0, 2), none)
	for i, c := range []struct {
		p          api.Pattern
		enc        int
		text, with string
		m          api.Match
		want       api.Errno
	}{
		{p, 1, "éa", `\0`, good, api.OK},
		{wrong, 0, "\xff", "\xff", match(9, 9), api.ErrState},
		{wide, 0, "\xff", "\xff", match(9, 9), api.ErrWidth},
		{p, 0, long + "a", "\xff", match(9, 9), api.ErrKind},
		{p, 1, long + "a", "\xff", match(9, 9), api.ErrMany},
		{p, 1, "\xff", long + "a", match(9, 9), api.ErrForm},
		{p, 1, "éa", long + "a", match(9, 9), api.ErrMany},
		{p, 1, "éa", `\` + "\xff", match(9, 9), api.ErrForm},
		{p, 1, "éa", `\9`, match(9, 9), api.ErrState},
		{p, 1, "éa", `\`, match(0, 0), api.ErrState},
		{p, 1, "éa", "", match(0, 0, none), api.ErrState},
		{p, 1, "éa", "", match(0, 0, none, none, none), api.ErrState},
		{p, 1, "éa", "", match(0, 0, none, none), api.OK},
		{p, 1, "éa", "", match(3, 3, none, none), api.OK},
		{p, 1, "éa", "", match(-1, 0, none, none), api.ErrState},
		{p, 1, "éa", "", match(-1, -1, none, none), api.ErrState},
		{p, 1, "éa", "", match(1, 2, none, none), api.ErrState},
		{p, 1, "éa", "", match(0, 1, none, none), api.ErrState},
		{p, 1, "éa", "", match(2, 4, none, none), api.ErrState},
		{p, 1, "éa", "", match(2, 0, none, none), api.ErrState},
		{p, 1, "éa", "", match(0, 1<<63-1, none, none), api.ErrState},
		{p, 1, "éa", "", match(2, 2, at(0, 3), none), api.OK},
		{p, 1, "éa", "", match(0, 3, at(3, 3), at(0, 0)), api.OK},
		{p, 1, "éa", "", match(0, 3, none, at(1, 2)), api.ErrState},
		{p, 1, "éa", "", match(0, 3, none, at(0, 1)), api.ErrState},
		{p, 1, "éa", "", match(0, 3, none, at(3, 2)), api.ErrState},
		{p, 1, "éa", "", match(0, 3, at(-1, 0), none), api.ErrState},
		{p, 1, "éa", "", match(0, 3, at(0, -1), none), api.ErrState},
		{p, 1, "éa", "", match(0, 3, at(-2, -2), none), api.ErrState},
		{p, 1, "éa", "", match(0, 3, at(2, 4), none), api.ErrState},
		{p, 1, "éa", strings.Repeat(`\0`, 2000), match(0, 2, none, none), api.OK},
		{p, 1, "éa", strings.Repeat(`\0`, 1999) + "aa", match(0, 2, none, none), api.OK},
		{p, 1, "éa", strings.Repeat(`\0`, 1998) + "aaaa", match(0, 2, none, none), api.OK},
		{p, 1, "éaa", strings.Repeat(`\0`, 2000), match(0, 3, none, none), api.ErrMany},
		{p, 1, long, `\0`, match(0, 4000, none, none), api.OK},
		{p, 1, long, `\0a`, match(0, 4000, none, none), api.ErrMany},
		{p, 1, long, `a\1`, match(0, 4000, at(0, 4000), none), api.ErrMany},
		{p, 1, long, `\0\0\9`, match(0, 4000, none, none), api.ErrNone},
		{p, 1, long, `\0\0\`, match(0, 4000, none, none), api.ErrForm},
		{p, 1, long, strings.Repeat(`\0`, 2000), match(0, 4000, none, none), api.ErrMany},
	} {
		s, err := find.Expand(c.p, c.enc, c.text, c.with, c.m)
		if err != c.want || err != api.OK && s != "" {
			t.Errorf("%d: %.20q, error %d, must be %d", i, s, err, c.want)
		}
	}
}

// L4: Replace and Split.
func TestReplaceAndSplit(t *testing.T) {
	for _, c := range []struct {
		pattern, text, with, want string
		parts                     []string
	}{
		{"b", "abcb", `<\0>`, `"a<b>c<b>"; burnt 5`, []string{"a", "c", ""}},
		{"b", "aca", `<\0>`, `"aca"; burnt 4`, []string{"aca"}},
		{"b", "", "x", `""; burnt 1`, []string{""}},
		{"", "", "x", `"x"; burnt 1`, []string{""}},
		{"", "aé", "-", `"-a-é-"; burnt 3`, []string{"aé"}},
		{"a*", "baac", "-", `"-b--c-"; burnt 10`, []string{"b", "c"}},
		{"a+", "aabaa", "", `"b"; burnt 12`, []string{"", "b", ""}},
		{",", ",a,,b", `\\`, `"\\a\\\\b"; burnt 6`, []string{"", "a", "", "b"}},
		{"(.)(.)", "abcde", `\2\1`, `"badce"; burnt 18`, []string{"", "", "e"}},
		{"(?<l>[a-z])(?<d>[0-9])?", "a1b", `\k<d>\k<l>.`, `"1a.b."; burnt 15`, []string{"", "", ""}},
		{"(?<=a)", "aab", "|", `"a|a|b"; burnt 7`, []string{"aab"}},
		{"^", "a\nb", "> ", `"> a\n> b"; burnt 4`, []string{"a\nb"}},
	} {
		p := parsed(t, c.pattern)
		if s := toldText(find.Replace(p, api.EncUTF8, c.text, c.with, 1000)); s != c.want {
			t.Errorf("%q in %q by %q: %s, must be %s", c.pattern, c.text, c.with, s, c.want)
		}
		if l, err := find.Split(p, api.EncUTF8, c.text, 1000); !slices.Equal(l, c.parts) || err != api.OK {
			t.Errorf("%q in %q: parts %q, error %d, must be %q", c.pattern, c.text, l, err, c.parts)
		}
	}
	long := strings.Repeat("ab", api.MaxText/2)
	if s, _, err := find.Replace(parsed(t, "b"), api.EncUTF8, long, "c", api.MaxFuel); s != strings.Repeat("ac", api.MaxText/2) || err != api.OK {
		t.Errorf("a long text: %d bytes, error %d", len(s), err)
	}
	if s, n, err := find.Replace(parsed(t, "a"), api.EncUTF8, long[:api.MaxText-1], "aa", api.MaxFuel); s != "" || n != 0 || err != api.ErrMany {
		t.Errorf("too long: %d bytes, error %d", len(s), err)
	}
}

// P2: what is handed in is only read; what comes out is new.
func TestMemory(t *testing.T) {
	build := func() api.Pattern {
		p := parsed(t, "(?<x>a)(b)?")
		p.Tree.Kids = append(slices.Clone(p.Tree.Kids), api.Node{Kind: 99})[:2]
		p.Names = append(p.Names, api.Name{Text: "?", Number: 9})[:1]
		return p
	}
	p := build()
	groups := []api.Range{{From: 0, To: 1}, {From: 1, To: 2}, {From: 7, To: 7}}[:2]
	text := "abxa"
	for range 2 {
		l, burnt, err := find.All(p, api.EncUTF8, text, 100)
		if s := toldAll(l, burnt, err); s != "0-2 0-1 1-2, 3-4 3-4 -; burnt 18" {
			t.Fatal(s)
		}
		m, _, _, _ := find.Search(p, api.EncUTF8, text, 0, 100)
		clear(m.Groups[:cap(m.Groups)])
		clear(l[0].Groups[:cap(l[0].Groups)])
		if found(l[1]) != "3-4 3-4 -" {
			t.Error("two lists of one answer share memory")
		}
		clear(l[:cap(l)])
		if s, err := find.Expand(p, api.EncUTF8, text, `\2\1`, api.Match{To: 2, Groups: groups}); s != "ba" || err != api.OK {
			t.Error(s, err)
		}
		if s, _, err := find.Replace(p, api.EncUTF8, text, `\k<x>`, 100); s != "axa" || err != api.OK {
			t.Error(s, err)
		}
		parts, _ := find.Split(p, api.EncUTF8, text, 100)
		if !slices.Equal(parts, []string{"", "x", ""}) {
			t.Error(parts)
		}
		if unsafe.StringData(parts[1]) == unsafe.StringData(text[2:]) {
			t.Error("a part shares memory with the text")
		}
		clear(parts)
	}
	keep := build()
	if fmt.Sprint(p.Tree.Kids[:3], p.Names[:2]) != fmt.Sprint(keep.Tree.Kids[:3], keep.Names[:2]) || fmt.Sprint(groups[:3]) != "[{0 1} {1 2} {7 7}]" {
		t.Error("what was handed in is changed")
	}
}
