package bracket_test

import (
	"slices"
	"strings"
	"testing"

	"thicket/api"
	"thicket/bracket"
)

// F4: what is wrong in all dialects.
func TestFaults(t *testing.T) {
	for s, want := range map[string]api.Fault{
		"": {Err: api.ErrForm, At: 0}, "^": {Err: api.ErrForm, At: 1}, "]": {Err: api.ErrForm, At: 1}, "^]": {Err: api.ErrForm, At: 2}, "a": {Err: api.ErrForm, At: 1}, "^ab": {Err: api.ErrForm, At: 3}, "-": {Err: api.ErrForm, At: 1}, "a-": {Err: api.ErrForm, At: 2}, "a-b": {Err: api.ErrForm, At: 3}, "a-b-": {Err: api.ErrForm, At: 4}, "]-": {Err: api.ErrForm, At: 2},
		"c-a]": {Err: api.ErrRange, At: 2}, "xyc-a": {Err: api.ErrRange, At: 4}, "a--]": {Err: api.ErrRange, At: 2}, "a-^]": {Err: api.ErrRange, At: 2}, "]-[:]": {Err: api.ErrForm, At: 2}, "é-e]": {Err: api.ErrRange, At: 2}, "]-A]": {Err: api.ErrRange, At: 2}, "a-c-+-*]": {Err: api.ErrRange, At: 6}, "a-cz-x]": {Err: api.ErrRange, At: 5}, "a-c--+]": {Err: api.ErrRange, At: 5}, "\U0010ffff-\x00]": {Err: api.ErrRange, At: 2},
		"[:nope:]]": {Err: api.ErrNone, At: 0}, "ab[:alphas:]": {Err: api.ErrNone, At: 2}, "^[:a:]]": {Err: api.ErrNone, At: 1}, "[:digit:][:digits:]]": {Err: api.ErrNone, At: 9},
		"[:": {Err: api.ErrForm, At: 2}, "[:a": {Err: api.ErrForm, At: 3}, "[:digit": {Err: api.ErrForm, At: 7}, "[:digit:": {Err: api.ErrForm, At: 7}, "[:digit:x]": {Err: api.ErrForm, At: 7}, "[:digit]": {Err: api.ErrForm, At: 7}, "[:digit ]": {Err: api.ErrForm, At: 7}, "[::]]": {Err: api.ErrForm, At: 2}, "[:]": {Err: api.ErrForm, At: 2}, "[:]]": {Err: api.ErrForm, At: 2}, "[:Digit:]]": {Err: api.ErrForm, At: 2}, "[:dIgit:]]": {Err: api.ErrForm, At: 3}, "[:digit1:]]": {Err: api.ErrForm, At: 7}, "[:nope": {Err: api.ErrForm, At: 6}, "[:nope]": {Err: api.ErrForm, At: 6}, "[:dé:]]": {Err: api.ErrForm, At: 3}, "[:-a:]]": {Err: api.ErrForm, At: 2}, "[:d\u0169:]]": {Err: api.ErrForm, At: 3},
		"[:digit:]": {Err: api.ErrForm, At: 9}, "a[:digit:]b": {Err: api.ErrForm, At: 11},
		"a-[:digit:]]": {Err: api.ErrForm, At: 2}, "a-[:nope:]]": {Err: api.ErrForm, At: 2}, "a-[:": {Err: api.ErrForm, At: 2}, "a-[:]]": {Err: api.ErrForm, At: 2}, "z-ba-[:digit:]]": {Err: api.ErrRange, At: 2},
	} {
		for _, dialect := range dialects {
			fails(t, dialect, s, want.Err, want.At)
		}
	}
}

// F4: what is wrong in DialectRuby alone.
func TestRubyFaults(t *testing.T) {
	for s, want := range map[string]api.Fault{
		`\`: {Err: api.ErrForm, At: 0}, `a\`: {Err: api.ErrForm, At: 1}, `\]`: {Err: api.ErrForm, At: 2}, `\q]`: {Err: api.ErrForm, At: 0}, `ab\0]`: {Err: api.ErrForm, At: 2}, `\x{110000}]`: {Err: api.ErrRange, At: 0}, `a\x{110000}]`: {Err: api.ErrRange, At: 1}, `\x]`: {Err: api.ErrForm, At: 0}, `\x{}]`: {Err: api.ErrForm, At: 0}, `\u12]`: {Err: api.ErrForm, At: 0}, `\x{110000`: {Err: api.ErrForm, At: 0},
		`\b]`: {Err: api.ErrForm, At: 0}, `\B]`: {Err: api.ErrForm, At: 0}, `\A]`: {Err: api.ErrForm, At: 0}, `a\z]`: {Err: api.ErrForm, At: 1}, `\1]`: {Err: api.ErrForm, At: 0}, `\k<1>]`: {Err: api.ErrForm, At: 0}, `\k<a>]`: {Err: api.ErrForm, At: 0}, `\k<0>]`: {Err: api.ErrRange, At: 0},
		`a-\d]`: {Err: api.ErrForm, At: 2}, `a-\W]`: {Err: api.ErrForm, At: 2}, `a-\b]`: {Err: api.ErrForm, At: 2}, `a-\q]`: {Err: api.ErrForm, At: 2}, `a-\`: {Err: api.ErrForm, At: 2}, `a-\x{110000}]`: {Err: api.ErrRange, At: 2}, `a-\x41]`: {Err: api.ErrRange, At: 2}, `\x43-\x41]`: {Err: api.ErrRange, At: 5}, `a-\]]`: {Err: api.ErrRange, At: 2},
		"[": {Err: api.ErrForm, At: 1}, "a[": {Err: api.ErrForm, At: 2}, "a[b": {Err: api.ErrForm, At: 3}, "a[b]": {Err: api.ErrForm, At: 4}, "a[]": {Err: api.ErrForm, At: 3}, "[^]": {Err: api.ErrForm, At: 3}, "[[a]": {Err: api.ErrForm, At: 4}, "a-[b]]": {Err: api.ErrForm, At: 2}, "a-[z": {Err: api.ErrForm, At: 2}, "a-[": {Err: api.ErrForm, At: 2}, "[c-a]]": {Err: api.ErrRange, At: 3}, "[[:nope:]]]": {Err: api.ErrNone, At: 1}, "a-[[:nope:]]]": {Err: api.ErrForm, At: 2},
		"[:^": {Err: api.ErrForm, At: 3}, "[:^]": {Err: api.ErrForm, At: 3}, "[:^:]]": {Err: api.ErrForm, At: 3}, "[:^^digit:]]": {Err: api.ErrForm, At: 3}, "[:^nope:]]": {Err: api.ErrNone, At: 0}, "[:^digit:": {Err: api.ErrForm, At: 8}, "[:d^igit:]]": {Err: api.ErrForm, At: 3}, "a-[:^digit:]]": {Err: api.ErrForm, At: 2},
		"&&a]": {Err: api.ErrForm, At: 0}, "^&&a]": {Err: api.ErrForm, At: 1}, "a&&]": {Err: api.ErrForm, At: 3}, "a&&": {Err: api.ErrForm, At: 3}, "a&&]b]": {Err: api.ErrForm, At: 3}, "a&&&&b]": {Err: api.ErrForm, At: 3}, "a&&b&&]": {Err: api.ErrForm, At: 6}, "a&&b": {Err: api.ErrForm, At: 4}, "&&": {Err: api.ErrForm, At: 0}, "&&]": {Err: api.ErrForm, At: 0}, "[&&a]]": {Err: api.ErrForm, At: 1}, "[a&&]]": {Err: api.ErrForm, At: 4}, "a&&c-a]": {Err: api.ErrRange, At: 5}, "a&&[:nope:]]": {Err: api.ErrNone, At: 3}, "a&&&": {Err: api.ErrForm, At: 4}, "a&": {Err: api.ErrForm, At: 2},
		"a-&&b]": {Err: api.ErrForm, At: 2}, "!-&&b]": {Err: api.ErrForm, At: 2}, "a-&b]": {Err: api.ErrRange, At: 2}, "!-&&": {Err: api.ErrForm, At: 2},
	} {
		fails(t, api.DialectRuby, s, want.Err, want.At)
	}
}

// F4: what is met first is told, and nothing that lies behind it.
func TestFirst(t *testing.T) {
	wrongs := []struct {
		s   string
		err api.Errno
		at  int
	}{
		{"c-a", api.ErrRange, 2}, {"[:nope:]", api.ErrNone, 0}, {"[:9", api.ErrForm, 2}, {"c-[:nope:]", api.ErrForm, 2}, {`\q`, api.ErrForm, 0}, {`\x{110000}`, api.ErrRange, 0}, {"[z-y]", api.ErrRange, 3}, {"&&&&", api.ErrForm, 2}, {strings.Repeat("[", 21), api.ErrMany, 20},
	}
	for _, first := range wrongs {
		for _, second := range wrongs {
			fails(t, api.DialectRuby, "x"+first.s+"x"+second.s+"]", first.err, first.at+1)
			fails(t, api.DialectRuby, "x"+first.s+"x"+second.s, first.err, first.at+1)
		}
	}
}

// F4: MaxDeep others within the outermost one, and one more.
func TestDeep(t *testing.T) {
	nested := func(n int, inner string) string {
		return strings.Repeat("[", n) + inner + strings.Repeat("]", n+1)
	}
	for n := range api.MaxDeep + 1 {
		means(t, api.DialectRuby, nested(n, "a"), false, ranges('a', 'a'))
		means(t, api.DialectRuby, nested(n, "a"), true, ranges('A', 'A', 'a', 'a'))
	}
	for n := api.MaxDeep + 1; n < api.MaxDeep+5; n++ {
		fails(t, api.DialectRuby, nested(n, "a"), api.ErrMany, api.MaxDeep)
		fails(t, api.DialectRuby, strings.Repeat("[", n), api.ErrMany, api.MaxDeep)
		fails(t, api.DialectRuby, strings.Repeat("[^", n), api.ErrMany, 2*api.MaxDeep)
	}
	// Those that have ended do not count, nor do classes; what may not begin behind a `-` does not even begin.
	means(t, api.DialectRuby, strings.Repeat("[a]", 90)+"]", false, ranges('a', 'a'))
	means(t, api.DialectRuby, nested(api.MaxDeep, "[:digit:]"), false, class("digit"))
	fails(t, api.DialectRuby, nested(api.MaxDeep, "a-[b]"), api.ErrForm, api.MaxDeep+2)
	fails(t, api.DialectRuby, nested(api.MaxDeep, "a[b]"), api.ErrMany, api.MaxDeep+1)
	for _, dialect := range []int{api.DialectPosix, api.DialectEmacs} {
		l, next, fault := bracket.Parse(dialect, pts(nested(25, "a")), 0, false)
		if !slices.Equal(l, ranges('[', '[', 'a', 'a')) || next != 27 || fault != (api.Fault{}) {
			t.Errorf("dialect %d: %v %d %v", dialect, l, next, fault)
		}
	}
}

// F4: which errors there are of what is handed in, at 0, and which of them comes first.
func TestHandedIn(t *testing.T) {
	full := slices.Concat(slices.Repeat([]int{'a'}, api.MaxPattern-1), []int{']'})
	many := append(slices.Clone(full), ']')
	told := func(dialect int, l []int, at int, err api.Errno) {
		t.Helper()
		out, next, fault := bracket.Parse(dialect, l, at, false)
		if len(out) != 0 || next != 0 || fault != (api.Fault{Err: err}) {
			t.Errorf("dialect %d, %d points, at %d: %v %d %v, must be %d", dialect, len(l), at, out, next, fault, err)
		}
	}
	ats := []int{-1 << 63, -1, api.MaxPattern + 1, api.MaxPattern + 2, 1 << 32, 1<<63 - 1}
	for _, dialect := range dialects {
		if l, next, fault := bracket.Parse(dialect, full, 5, false); !slices.Equal(l, ranges('a', 'a')) || next != api.MaxPattern || fault != (api.Fault{}) {
			t.Errorf("MaxPattern points: %v %d %v", l, next, fault)
		}
		if l, next, fault := bracket.Parse(dialect, full, api.MaxPattern, false); len(l) != 0 || next != 0 || fault != (api.Fault{Err: api.ErrForm, At: api.MaxPattern}) {
			t.Errorf("at the end of MaxPattern points: %v %d %v", l, next, fault)
		}
		for _, at := range ats {
			told(dialect, full, at, api.ErrRange)
		}
		for _, at := range append(ats, 0, api.MaxPattern) {
			told(dialect, many, at, api.ErrMany)
			told(dialect, append(slices.Clone(many), -1), at, api.ErrMany)
			for _, p := range []int{-1 << 63, -1, api.MaxPoint + 1, 1<<32 + 'a', 1<<63 - 1} {
				told(dialect, []int{'a', ']', p}, at, api.ErrRange)
				told(dialect, []int{p, 'c', '-', 'a', ']'}, at, api.ErrRange)
			}
		}
	}
	for _, dialect := range noDialects {
		for _, l := range [][]int{nil, pts("a]"), {-1}, many} {
			for _, at := range append(ats, 0) {
				told(dialect, l, at, api.ErrKind)
			}
		}
	}
}
