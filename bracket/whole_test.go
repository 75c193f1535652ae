package bracket_test

import (
	"regexp"
	"slices"
	"strings"
	"testing"

	"thicket/api"
	"thicket/bracket"
	"thicket/fold"
	"thicket/set"
)

// told is what an expression means, told here once more: of a point, whether it is in.
type told func(p int) bool

// teller tells an expression of ASCII by what its text looks like, point by point.
type teller struct {
	ruby, folded bool
	s            string
}

var (
	classForm  = regexp.MustCompile(`^\[:(\^?)([a-z]+):\]`)
	classStart = regexp.MustCompile(`^\[:\^?[a-z]*`)
	plainStart = regexp.MustCompile(`^\[:[a-z]*`)
	pointForm  = regexp.MustCompile(`^\\[^0-9A-Za-z]`)
	digitForm  = regexp.MustCompile(`^\\[dD]`)
)

func throw(err api.Errno, at int) { panic(api.Fault{Err: err, At: at}) }

func (e teller) fold(in told) told {
	if !e.folded {
		return in
	}
	return func(p int) bool {
		orbit, _ := fold.Orbit(p)
		return slices.ContainsFunc(orbit, in)
	}
}

func (e teller) isAnd(at int) bool { return e.ruby && strings.HasPrefix(e.s[at:], "&&") }

func (e teller) expression(at, deep int) (told, int) {
	over := strings.HasPrefix(e.s[at:], "^")
	if over {
		at++
	}
	first := at
	var parts []told
	for {
		var items []told
		for at == len(e.s) || !e.isAnd(at) && (e.s[at] != ']' || at == first) {
			var in told
			in, at = e.item(at, deep)
			items = append(items, in)
		}
		if len(items) == 0 {
			throw(api.ErrForm, at)
		}
		parts = append(parts, e.fold(func(p int) bool {
			return slices.ContainsFunc(items, func(in told) bool { return in(p) })
		}))
		if e.s[at] == ']' {
			break
		}
		at += 2
	}
	return func(p int) bool {
		return over == slices.ContainsFunc(parts, func(in told) bool { return !in(p) })
	}, at + 1
}

func (e teller) item(at, deep int) (told, int) {
	if at == len(e.s) {
		throw(api.ErrForm, at)
	}
	rest := e.s[at:]
	switch {
	case strings.HasPrefix(rest, "[:"):
		return e.class(at)
	case e.ruby && rest[0] == '[':
		if deep == api.MaxDeep {
			throw(api.ErrMany, at)
		}
		return e.expression(at+1, deep+1)
	case e.ruby && digitForm.MatchString(rest):
		return inClass("digit", rest[1] == 'D'), at + 2
	}
	from, at := e.point(at)
	to := from
	if at < len(e.s) && e.s[at] == '-' && !strings.HasPrefix(e.s[at:], "-]") {
		second := at + 1
		if e.isAnd(second) || strings.HasPrefix(e.s[second:], "[:") || e.ruby && strings.HasPrefix(e.s[second:], "[") {
			throw(api.ErrForm, second)
		}
		if to, at = e.point(second); to < from {
			throw(api.ErrRange, second)
		}
	}
	return func(p int) bool { return p >= from && p <= to }, at
}

func (e teller) point(at int) (int, int) {
	if at == len(e.s) {
		throw(api.ErrForm, at)
	}
	if !e.ruby || e.s[at] != '\\' {
		return int(e.s[at]), at + 1
	}
	if !pointForm.MatchString(e.s[at:]) {
		throw(api.ErrForm, at)
	}
	return int(e.s[at+1]), at + 2
}

func (e teller) class(at int) (told, int) {
	form := classForm.FindStringSubmatch(e.s[at:])
	start := classStart
	if !e.ruby {
		start = plainStart
	}
	if form == nil || form[1] == "^" && !e.ruby {
		throw(api.ErrForm, at+len(start.FindString(e.s[at:])))
	}
	if _, err := fold.Class(form[2]); err != api.OK {
		throw(api.ErrNone, at)
	}
	return inClass(form[2], form[1] == "^"), at + len(form[0])
}

func inClass(name string, not bool) told {
	return func(p int) bool {
		in, _ := fold.In(name, p)
		return in != not
	}
}

func tell(dialect int, s string, folded bool) (in told, next int, fault api.Fault) {
	defer func() {
		if thrown := recover(); thrown != nil {
			in, next, fault = nil, 0, thrown.(api.Fault)
		}
	}()
	e := teller{ruby: dialect == api.DialectRuby, folded: folded, s: s}
	in, next = e.expression(0, 0)
	return in, next, api.Fault{}
}

// asked are the points of which is asked: those of the texts, others that fold to them, and edges.
func asked() []int {
	return []int{0, 1, '%', '&', '\'', ',', '-', '.', '/', '0', '9', ':', ';', '@', 'A', 'B', 'C', 'D', 'E', 'J', 'K', 'L', 'Z', '[', '\\', ']', '^', '_', '`', 'a', 'b', 'c', 'd', 'e', 'j', 'k', 'l', 'z', '{', 127, 128, 222, 223, 256, 257, 1632, 8489, 8490, 8491, 8492, 0xd800, api.MaxPoint}
}

// F1 to F4: all expressions that are made of a start and some pieces, in all dialects.
func TestWhole(t *testing.T) {
	pieces := []string{"b", "k", "K", "]", "[", "^", "-", "&", "&&", ":", `\`, `\d`, `\D`, "[:", ":]", "[:upper:]", "[:^lower:]", "[:x:]"}
	var text func(s string, more int)
	text = func(s string, more int) {
		for _, end := range []string{"", "]", "]]"} {
			for _, dialect := range dialects {
				sameAsTold(t, dialect, s+end, false)
				sameAsTold(t, dialect, s+end, true)
			}
		}
		for _, piece := range pieces {
			if more > 0 && !t.Failed() {
				text(s+piece, more-1)
			}
		}
	}
	for _, start := range []string{"", "k-", "b&&", "[^", "[b-k&&"} {
		text(start, 3)
	}
}

func sameAsTold(t *testing.T, dialect int, s string, folded bool) {
	t.Helper()
	in, wantNext, wantFault := tell(dialect, s, folded)
	l, next, fault := bracket.Parse(dialect, pts(s), 0, folded)
	if next != wantNext || fault != wantFault || set.Check(l) != api.OK {
		t.Errorf("dialect %d, %q, folded %v: %v %d %v, must be %d %v", dialect, s, folded, l, next, fault, wantNext, wantFault)
		return
	}
	if fault.Err != api.OK {
		if len(l) != 0 {
			t.Errorf("dialect %d, %q, folded %v: a fault, and %v", dialect, s, folded, l)
		}
		return
	}
	for _, p := range asked() {
		if has := slices.ContainsFunc(l, func(r api.Range) bool { return r.From <= p && p <= r.To }); has != in(p) {
			t.Errorf("dialect %d, %q, folded %v: has %d: %v", dialect, s, folded, p, has)
		}
	}
}

// F5: single points, whichever they are, and what is turned over.
func TestSinglePoints(t *testing.T) {
	for _, dialect := range dialects {
		for from := 0; from <= api.MaxPoint; from += 7919 {
			var l []int
			var want []api.Range
			for p := from; p <= api.MaxPoint && len(l) < 290; p += 3 {
				if strings.ContainsRune(`]-\[&^`, rune(p)) {
					continue
				}
				l = append(l, p)
				want = append(want, api.Range{From: p, To: p})
			}
			slices.Reverse(l)
			l = append(l, ']')
			out, next, fault := bracket.Parse(dialect, l, 0, false)
			if !slices.Equal(out, want) || next != len(l) || fault != (api.Fault{}) {
				t.Errorf("dialect %d, points from %d on: %v %d %v", dialect, from, out, next, fault)
			}
			over, next, fault := bracket.Parse(dialect, append([]int{'^'}, l...), 0, false)
			if !slices.Equal(over, not(want)) || next != len(l)+1 || fault != (api.Fault{}) {
				t.Errorf("dialect %d, all but points from %d on: %v %d %v", dialect, from, over, next, fault)
			}
		}
	}
}

// F4: as many ranges as MaxPattern points can mean, or nearly: no more than MaxRanges.
func TestManyRanges(t *testing.T) {
	var l []int
	every := func(from, to int) {
		for p := from; p <= to; p += 2 {
			l = append(l, p)
		}
	}
	every('A', 'Z')
	every(192, 214)
	every(216, 222)
	every(913, 929)
	every(931, 939)
	every(1024, 1071)
	l = append(l, '\\', 's')
	for p := 20000; len(l) < api.MaxPattern-1; p += 2 {
		l = append(l, p)
	}
	for _, turned := range []bool{false, true} {
		if turned {
			l = slices.Insert(l[:len(l)-1], 0, '^')
		}
		pattern := append(slices.Clone(l), ']')
		out, next, fault := bracket.Parse(api.DialectRuby, pattern, 0, true)
		if len(out) < 360 || set.Check(out) != api.OK || next != api.MaxPattern || fault != (api.Fault{}) {
			t.Errorf("turned over %v: %d ranges, %d %v", turned, len(out), next, fault)
		}
		for _, p := range l[1 : api.MaxPattern-2] {
			has, _ := set.Has(out, p)
			if has == turned && p != '\\' && p != 's' {
				t.Errorf("turned over %v: has %d: %v", turned, p, has)
			}
		}
	}
}

// P2, P3: what is handed in is only read, its spare room too; what comes out is new, and the same each time.
func TestMemory(t *testing.T) {
	for _, s := range []string{"a]", "a-c]", "^a]", "[:digit:]]", "[:^digit:]]", `\d]`, "[a]]", "a-z&&[^k]]", "c-a]", "[:nope:]]"} {
		full := pts("xx" + s + "yy]")
		keep := slices.Clone(full)
		for _, dialect := range dialects {
			for _, folded := range []bool{false, true} {
				l := full[2 : len(full)-3]
				first, next, fault := bracket.Parse(dialect, l, 0, folded)
				want := slices.Clone(first)
				clear(first[:cap(first)])
				if !slices.Equal(full, keep) {
					t.Fatalf("%q: what was handed in is changed, or answered", s)
				}
				second, nextAgain, again := bracket.Parse(dialect, l, 0, folded)
				for i := range full {
					full[i] = 'q'
				}
				if !slices.Equal(second, want) || nextAgain != next || again != fault {
					t.Errorf("dialect %d, %q, again: %v %d %v, was %v %d %v", dialect, s, second, nextAgain, again, want, next, fault)
				}
				copy(full, keep)
			}
		}
	}
}
