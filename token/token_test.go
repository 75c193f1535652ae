package token_test

import (
	"slices"
	"strconv"
	"strings"
	"testing"

	"thicket/api"
	"thicket/token"
)

var dialects = []int{api.DialectRuby, api.DialectPosix, api.DialectEmacs}

var noDialects = []int{-1 << 63, -1, 0, 4, 1 << 32, 1<<32 + 1, 1<<63 - 1}

var noPoints = []int{-1 << 63, -1, api.MaxPoint + 1, 1 << 32, 1<<32 + 'a', 1<<63 - 1}

func pts(s string) []int {
	var l []int
	for _, c := range s {
		l = append(l, int(c))
	}
	return l
}

// answer of Next.
type answer struct {
	t    api.Token
	next int
	err  api.Errno
}

func ask(dialect int, l []int, at int) answer {
	t, next, err := token.Next(dialect, l, at)
	return answer{t, next, err}
}

func wrong(err api.Errno) answer { return answer{err: err} }

func point(p, next int) answer {
	return answer{t: api.Token{Kind: api.TokenPoint, Number: p}, next: next}
}

func kind(k, next int) answer { return answer{t: api.Token{Kind: k}, next: next} }

func look(node, next int) answer {
	return answer{t: api.Token{Kind: api.TokenLook, Number: node}, next: next}
}

func class(name string, not bool, next int) answer {
	return answer{t: api.Token{Kind: api.TokenClass, Text: name, Not: not}, next: next}
}

func open(node int, name string, fold, next int) answer {
	return answer{t: api.Token{Kind: api.TokenOpen, Number: node, Text: name, Fold: fold}, next: next}
}

func option(fold, next int) answer {
	return answer{t: api.Token{Kind: api.TokenOption, Fold: fold}, next: next}
}

func again(number int, name string, next int) answer {
	return answer{t: api.Token{Kind: api.TokenAgain, Number: number, Text: name}, next: next}
}

func repeat(least, most, way, next int) answer {
	return answer{t: api.Token{Kind: api.TokenRepeat, Least: least, Most: most, Way: way}, next: next}
}

// told holds an answer of Next against the wanted one, and once more with points ahead, which must not matter.
func told(t *testing.T, dialect int, s string, want answer) {
	t.Helper()
	if got := ask(dialect, pts(s), 0); got != want {
		t.Errorf("dialect %d, %q: %v, must be %v", dialect, s, got, want)
	}
	if want.err == api.OK {
		want.next += 3
	}
	if got := ask(dialect, pts("\\(é"+s), 3); got != want {
		t.Errorf("dialect %d, %q behind others: %v, must be %v", dialect, s, got, want)
	}
}

// signs of one point, in each dialect, behind a `\` or not.
func signs(dialect int, escaped bool) map[int]answer {
	n := 1
	if escaped {
		n = 2
	}
	parting := map[int]answer{'(': open(api.NodeGroup, "", 0, n), ')': kind(api.TokenClose, n), '|': kind(api.TokenBar, n), '{': wrong(api.ErrForm)}
	if escaped {
		switch dialect {
		case api.DialectRuby:
			return rubyEscapes()
		case api.DialectEmacs:
			return emacsEscapes(parting)
		}
		return nil
	}
	m := map[int]answer{
		'.': kind(api.TokenAny, 1), '^': look(api.NodeLineStart, 1), '$': look(api.NodeLineEnd, 1), '[': kind(api.TokenSet, 1),
		'*': repeat(0, -1, api.WayGreedy, 1), '+': repeat(1, -1, api.WayGreedy, 1), '?': repeat(0, 1, api.WayGreedy, 1),
		'\\': wrong(api.ErrForm),
	}
	if dialect != api.DialectEmacs {
		for p, a := range parting {
			m[p] = a
		}
	}
	if dialect == api.DialectRuby {
		m['{'] = point('{', 1)
	}
	return m
}

func rubyEscapes() map[int]answer {
	m := map[int]answer{
		'd': class("digit", false, 2), 'w': class("word", false, 2), 's': class("space", false, 2), 'h': class("xdigit", false, 2),
		'D': class("digit", true, 2), 'W': class("word", true, 2), 'S': class("space", true, 2), 'H': class("xdigit", true, 2),
		'A': look(api.NodeTextStart, 2), 'z': look(api.NodeTextEnd, 2), 'b': look(api.NodeWord, 2), 'B': look(api.NodeNoWord, 2),
		'n': point(10, 2), 't': point(9, 2), 'r': point(13, 2), 'f': point(12, 2), 'v': point(11, 2), 'a': point(7, 2), 'e': point(27, 2),
	}
	for p := '1'; p <= '9'; p++ {
		m[int(p)] = again(int(p-'0'), "", 2)
	}
	for _, p := range pts("0cgijklmopquxyCEFGIJKLMNOPQRTUVXYZ") {
		m[p] = wrong(api.ErrForm)
	}
	return m
}

func emacsEscapes(m map[int]answer) map[int]answer {
	m['w'], m['W'] = class("word", false, 2), class("word", true, 2)
	m['b'], m['B'] = look(api.NodeWord, 2), look(api.NodeNoWord, 2)
	m['`'], m['\''] = look(api.NodeTextStart, 2), look(api.NodeTextEnd, 2)
	for p := '1'; p <= '9'; p++ {
		m[int(p)] = again(int(p-'0'), "", 2)
	}
	return m
}

// E2, E4, E5: each point there is, alone and behind a `\`, in each dialect.
func TestEveryPoint(t *testing.T) {
	for _, dialect := range dialects {
		bare, escaped := signs(dialect, false), signs(dialect, true)
		for p := range api.MaxPoint + 1 {
			want, ok := bare[p]
			if !ok {
				want = point(p, 1)
			}
			if got := ask(dialect, []int{p}, 0); got != want {
				t.Errorf("dialect %d, %d: %v, must be %v", dialect, p, got, want)
			}
			want, ok = escaped[p]
			if !ok {
				want = point(p, 2)
			}
			if got := ask(dialect, []int{'\\', p}, 0); got != want {
				t.Errorf("dialect %d, %d behind a \\: %v, must be %v", dialect, p, got, want)
			}
		}
	}
}

// E2: what is no `{N}` and so on, and what a dialect makes of it.
func TestNoTimes(t *testing.T) {
	for _, s := range []string{"{", "{}", "{,}", "{,", "{2", "{2,", "{2,3", "{,3", "{1000}", "{0001}", "{1,1000}", "{1000,}", "{,1000}", "{x}", "{2x}", "{2,x}", "{ 2}", "{2 }", "{2, 3}", "{2,,3}", "{2,3,4}", "{-1}", "{+1}", "{2,3)", "{２}", "{٢}", "{a}", "{2;3}", "{{2}}"} {
		told(t, api.DialectRuby, s, point('{', 1))
		told(t, api.DialectPosix, s, wrong(api.ErrForm))
		told(t, api.DialectEmacs, s, point('{', 1))
		told(t, api.DialectEmacs, "\\"+s, wrong(api.ErrForm))
		told(t, api.DialectEmacs, "\\"+strings.ReplaceAll(s, "}", "\\}"), wrong(api.ErrForm))
		told(t, api.DialectRuby, "\\"+s, point('{', 2))
		told(t, api.DialectPosix, "\\"+s, point('{', 2))
	}
	for _, s := range []string{"{2}", "{2,}", "{,2}", "{2,3}", "{3,2}", "{101}"} {
		told(t, api.DialectEmacs, s, point('{', 1))
		told(t, api.DialectEmacs, "\\"+s, wrong(api.ErrForm))
		told(t, api.DialectEmacs, strings.ReplaceAll(s, "}", "\\}"), point('{', 1))
		told(t, api.DialectRuby, strings.ReplaceAll(s, "}", "\\}"), point('{', 1))
		told(t, api.DialectPosix, strings.ReplaceAll(s, "}", "\\}"), wrong(api.ErrForm))
	}
	told(t, api.DialectEmacs, "\\}", point('}', 2))
	told(t, api.DialectEmacs, "\\{2\\", wrong(api.ErrForm))
	told(t, api.DialectEmacs, "\\{2\\x}", wrong(api.ErrForm))
}

// numbers as they are written, with noughts ahead too.
func numbers() []string {
	l := []string{"", "00", "000", "01", "007", "099", "100", "101", "999"}
	for n := range 13 {
		l = append(l, strconv.Itoa(n*9))
	}
	return l
}

// E2: all forms, of many numbers: what they mean, and which error comes first.
func TestTimes(t *testing.T) {
	for _, first := range numbers() {
		for _, second := range numbers() {
			for _, s := range []string{first + "," + second, first} {
				if s == "," || s == "" {
					continue
				}
				want := wantedTimes(s)
				if want.err == api.OK {
					want.next = len(s) + 2
				}
				told(t, api.DialectRuby, "{"+s+"}", want)
				told(t, api.DialectPosix, "{"+s+"}", want)
				if want.err == api.OK {
					want.next = len(s) + 4
				}
				told(t, api.DialectEmacs, "\\{"+s+"\\}", want)
			}
		}
	}
}

func wantedTimes(s string) answer {
	least, most, parted := strings.Cut(s, ",")
	if !parted {
		most = least
	}
	from, _ := strconv.Atoi(least)
	to, err := strconv.Atoi(most)
	if err != nil {
		to = -1
	}
	if to >= 0 && from > to {
		return wrong(api.ErrRange)
	}
	if from > 100 || to > 100 {
		return wrong(api.ErrMany)
	}
	return repeat(from, to, api.WayGreedy, 0)
}

// E3: ways, in DialectRuby alone; one sign is part of the token, and no more.
func TestWay(t *testing.T) {
	for s, want := range map[string]answer{"*": repeat(0, -1, 0, 1), "+": repeat(1, -1, 0, 1), "?": repeat(0, 1, 0, 1), "{2}": repeat(2, 2, 0, 3), "{2,}": repeat(2, -1, 0, 4), "{,2}": repeat(0, 2, 0, 4), "{2,3}": repeat(2, 3, 0, 5)} {
		for behind, way := range map[string]int{"": api.WayGreedy, "?": api.WayLazy, "+": api.WayPossessive, "*": api.WayGreedy, "{2}": api.WayGreedy, "a": api.WayGreedy, "??": api.WayLazy, "?+": api.WayLazy, "++": api.WayPossessive, "+?": api.WayPossessive, "\\?": api.WayGreedy} {
			ruby, other := want, want
			ruby.t.Way, other.t.Way = way, api.WayGreedy
			if way != api.WayGreedy {
				ruby.next++
			}
			told(t, api.DialectRuby, s+behind, ruby)
			told(t, api.DialectPosix, s+behind, other)
			if s[0] != '{' {
				told(t, api.DialectEmacs, s+behind, other)
				continue
			}
			other.next += 2
			told(t, api.DialectEmacs, "\\"+s[:len(s)-1]+"\\}"+behind, other)
		}
	}
}

// E3: what stands behind a `(` in DialectRuby; the others have groups alone.
func TestOpen(t *testing.T) {
	long := strings.Repeat("aZ_9", 5)
	for s, want := range map[string]answer{
		"(": open(api.NodeGroup, "", 0, 1), "()": open(api.NodeGroup, "", 0, 1), "(a?": open(api.NodeGroup, "", 0, 1), "(:": open(api.NodeGroup, "", 0, 1), "(*": open(api.NodeGroup, "", 0, 1), "(+": open(api.NodeGroup, "", 0, 1), "(\\?": open(api.NodeGroup, "", 0, 1),
		"(?:": open(api.NodeEmpty, "", 0, 3), "(?>": open(api.NodeAtomic, "", 0, 3), "(?=": open(api.NodeAhead, "", 0, 3), "(?!": open(api.NodeNotAhead, "", 0, 3),
		"(?<=": open(api.NodeBehind, "", 0, 4), "(?<!": open(api.NodeNotBehind, "", 0, 4), "(?<=>": open(api.NodeBehind, "", 0, 4),
		"(?<a>": open(api.NodeGroup, "a", 0, 5), "(?<_>": open(api.NodeGroup, "_", 0, 5), "(?<Z9>": open(api.NodeGroup, "Z9", 0, 6), "(?<i>": open(api.NodeGroup, "i", 0, 5), "(?<a>>": open(api.NodeGroup, "a", 0, 5),
		"(?<" + long + ">": open(api.NodeGroup, long, 0, 24),
		"(?i:":             open(api.NodeEmpty, "", 1, 4), "(?-i:": open(api.NodeEmpty, "", -1, 5), "(?i)": option(1, 4), "(?-i)": option(-1, 5),
		"(?": wrong(api.ErrForm), "(??": wrong(api.ErrForm), "(?)": wrong(api.ErrForm), "(?(": wrong(api.ErrForm), "(?a": wrong(api.ErrForm), "(?#": wrong(api.ErrForm), "(?*": wrong(api.ErrForm), "(?m)": wrong(api.ErrForm), "(?I)": wrong(api.ErrForm),
		"(?i": wrong(api.ErrForm), "(?i>": wrong(api.ErrForm), "(?ii)": wrong(api.ErrForm), "(?i-i)": wrong(api.ErrForm), "(?-": wrong(api.ErrForm), "(?-)": wrong(api.ErrForm), "(?-:": wrong(api.ErrForm), "(?-i": wrong(api.ErrForm), "(?-i>": wrong(api.ErrForm), "(?--i)": wrong(api.ErrForm),
		"(?<": wrong(api.ErrForm), "(?<>": wrong(api.ErrForm), "(?<a": wrong(api.ErrForm), "(?<9>": wrong(api.ErrForm), "(?<9a>": wrong(api.ErrForm), "(?<a-b>": wrong(api.ErrForm), "(?<é>": wrong(api.ErrForm), "(?<aé>": wrong(api.ErrForm), "(?<a)": wrong(api.ErrForm), "(?< a>": wrong(api.ErrForm), "(?<a >": wrong(api.ErrForm), "(?<\u0161>": wrong(api.ErrForm),
		"(?<" + long + "x>": wrong(api.ErrForm), "(?<" + long: wrong(api.ErrForm),
		"(?P<a>": wrong(api.ErrForm), "(?'a'": wrong(api.ErrForm), "(?\\:": wrong(api.ErrForm),
	} {
		told(t, api.DialectRuby, s, want)
		told(t, api.DialectPosix, s, open(api.NodeGroup, "", 0, 1))
		told(t, api.DialectEmacs, s, point('(', 1))
		told(t, api.DialectEmacs, "\\"+s, open(api.NodeGroup, "", 0, 2))
		told(t, api.DialectRuby, "\\"+s, point('(', 2))
		told(t, api.DialectPosix, "\\"+s, point('(', 2))
	}
}

// E4: points by their numbers, and groups again, in DialectRuby.
func TestLong(t *testing.T) {
	name := strings.Repeat("Q", 20)
	for s, want := range map[string]answer{
		`\x4`: point(4, 3), `\x41`: point(0x41, 4), `\x411`: point(0x41, 4), `\xfF`: point(255, 4), `\xaz`: point(10, 3), `\x0`: point(0, 3), `\x4é`: point(4, 3), `\x4{1}`: point(4, 3),
		`\x`: wrong(api.ErrForm), `\xg`: wrong(api.ErrForm), `\x:`: wrong(api.ErrForm), `\x/`: wrong(api.ErrForm), "\\x`": wrong(api.ErrForm), `\x@`: wrong(api.ErrForm), `\xG`: wrong(api.ErrForm),
		`\x{0}`: point(0, 5), `\x{000000}`: point(0, 10), `\x{aB}`: point(0xab, 6), `\x{10ffff}`: point(api.MaxPoint, 10), `\x{d800}`: point(0xd800, 8), `\x{41}}`: point(0x41, 6),
		`\x{110000}`: wrong(api.ErrRange), `\x{ffffff}`: wrong(api.ErrRange), `\x{110000`: wrong(api.ErrForm), `\x{1100000}`: wrong(api.ErrForm), `\x{0000041}`: wrong(api.ErrForm), `\x{}`: wrong(api.ErrForm), `\x{`: wrong(api.ErrForm), `\x{g}`: wrong(api.ErrForm), `\x{4g}`: wrong(api.ErrForm), `\x{4`: wrong(api.ErrForm), `\x{4 }`: wrong(api.ErrForm), `\x{-4}`: wrong(api.ErrForm),
		`\u0041`: point(0x41, 6), `\uFffF`: point(0xffff, 6), `\ud83d`: point(0xd83d, 6), `\u00411`: point(0x41, 6),
		`\u`: wrong(api.ErrForm), `\u1`: wrong(api.ErrForm), `\u12`: wrong(api.ErrForm), `\u123`: wrong(api.ErrForm), `\u123g`: wrong(api.ErrForm), `\u{41}`: wrong(api.ErrForm), `\ug123`: wrong(api.ErrForm),
		`\1`: again(1, "", 2), `\9`: again(9, "", 2), `\10`: again(10, "", 3), `\99`: again(99, "", 3), `\123`: again(12, "", 3), `\1a`: again(1, "", 2), `\1:`: again(1, "", 2), `\0`: wrong(api.ErrForm), `\00`: wrong(api.ErrForm), `\01`: wrong(api.ErrForm),
		`\k<1>`: again(1, "", 5), `\k<999>`: again(999, "", 7), `\k<007>`: again(7, "", 7), `\k<-1>`: again(-1, "", 6), `\k<-999>`: again(-999, "", 8), `\k<-010>`: again(-10, "", 8), `\k<1>>`: again(1, "", 5),
		`\k<a>`: again(0, "a", 5), `\k<_1>`: again(0, "_1", 6), `\k<` + name + `>`: again(0, name, 24),
		`\k<0>`: wrong(api.ErrRange), `\k<000>`: wrong(api.ErrRange), `\k<-0>`: wrong(api.ErrRange), `\k<-00>`: wrong(api.ErrRange),
		`\k<0`: wrong(api.ErrForm), `\k<0000>`: wrong(api.ErrForm), `\k<-0a>`: wrong(api.ErrForm),
		`\k`: wrong(api.ErrForm), `\k1`: wrong(api.ErrForm), `\k{1}`: wrong(api.ErrForm), `\k<`: wrong(api.ErrForm), `\k<>`: wrong(api.ErrForm), `\k<->`: wrong(api.ErrForm), `\k<-a>`: wrong(api.ErrForm), `\k<--1>`: wrong(api.ErrForm), `\k<+1>`: wrong(api.ErrForm), `\k<1`: wrong(api.ErrForm), `\k<1a>`: wrong(api.ErrForm), `\k<1000>`: wrong(api.ErrForm), `\k<-1000>`: wrong(api.ErrForm), `\k<a`: wrong(api.ErrForm), `\k<a-1>`: wrong(api.ErrForm), `\k<é>`: wrong(api.ErrForm), `\k< 1>`: wrong(api.ErrForm), `\k<` + name + `q>`: wrong(api.ErrForm),
	} {
		told(t, api.DialectRuby, s, want)
		told(t, api.DialectPosix, s, point(int(s[1]), 2))
		if s[1] >= '1' && s[1] <= '9' {
			told(t, api.DialectEmacs, s, again(int(s[1]-'0'), "", 2))
		} else {
			told(t, api.DialectEmacs, s, point(int(s[1]), 2))
		}
	}
}

// E1: which errors there are of what is handed in, and which of them comes first.
func TestHandedIn(t *testing.T) {
	full := slices.Repeat([]int{'a'}, api.MaxPattern)
	many := slices.Repeat([]int{'a'}, api.MaxPattern+1)
	for _, dialect := range dialects {
		if got := ask(dialect, full, api.MaxPattern-1); got != point('a', api.MaxPattern) {
			t.Errorf("the last of MaxPattern: %v", got)
		}
		for _, at := range []int{-1 << 63, -1, api.MaxPattern, api.MaxPattern + 1, 1 << 32, 1<<63 - 1} {
			if got := ask(dialect, full, at); got != wrong(api.ErrRange) {
				t.Errorf("at %d: %v", at, got)
			}
		}
		for _, at := range []int{-1, 0, 5, api.MaxPattern, api.MaxPattern + 1} {
			if got := ask(dialect, many, at); got != wrong(api.ErrMany) {
				t.Errorf("too many, at %d: %v", at, got)
			}
			if got := ask(dialect, append(slices.Clone(many), -1), at); got != wrong(api.ErrMany) {
				t.Errorf("too many, and no point, at %d: %v", at, got)
			}
		}
		for _, p := range noPoints {
			for _, l := range [][]int{{p}, {p, 'a'}, {'a', p}, {'\\', p}, {'a', '\\', p}} {
				if got := ask(dialect, l, 0); got != wrong(api.ErrRange) {
					t.Errorf("%v: %v", l, got)
				}
			}
		}
		if got := ask(dialect, nil, 0); got != wrong(api.ErrRange) {
			t.Errorf("nothing: %v", got)
		}
	}
	for _, dialect := range noDialects {
		for _, l := range [][]int{nil, {'a'}, {-1}, many} {
			for _, at := range []int{-1, 0, 1} {
				if got := ask(dialect, l, at); got != wrong(api.ErrKind) {
					t.Errorf("dialect %d: %v", dialect, got)
				}
			}
		}
	}
}
