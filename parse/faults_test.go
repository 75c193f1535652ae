package parse_test

import (
	"slices"
	"strings"
	"testing"

	"thicket/api"
	"thicket/parse"
)

// isWrong holds a fault against the answer, folded and not; nothing else is told.
func isWrong(t *testing.T, dialect int, l []int, err api.Errno, at int) {
	t.Helper()
	for _, folded := range []bool{false, true} {
		p, fault := parse.Parse(dialect, l, folded)
		if fault != (api.Fault{Err: err, At: at}) || text(p.Tree) != "" || len(p.Tree.Kids) != 0 || p.Groups != 0 || len(p.Names) != 0 {
			t.Errorf("dialect %d, %v: %v %s %d %v, must be %d at %d", dialect, l, fault, text(p.Tree), p.Groups, p.Names, err, at)
		}
	}
}

// G4: what is wrong with what is handed in, at 0, and which comes first.
func TestHandedIn(t *testing.T) {
	full, many := make([]int, api.MaxPattern), make([]int, api.MaxPattern+1)
	for _, dialect := range noDialects {
		for _, l := range [][]int{nil, pts("a"), pts("a)"), {-1}, many} {
			isWrong(t, dialect, l, api.ErrKind, 0)
		}
	}
	for _, dialect := range dialects {
		if p, fault := parse.Parse(dialect, full, false); fault != (api.Fault{}) || len(p.Tree.Kids) != api.MaxPattern {
			t.Errorf("dialect %d, MaxPattern points: %v", dialect, fault)
		}
		isWrong(t, dialect, many, api.ErrMany, 0)
		isWrong(t, dialect, append(slices.Clone(many), -1), api.ErrMany, 0)
		for _, p := range []int{-1 << 63, -1, api.MaxPoint + 1, 1<<32 + 'a', 1<<63 - 1} {
			isWrong(t, dialect, []int{p}, api.ErrRange, 0)
			isWrong(t, dialect, []int{'a', 'b', p}, api.ErrRange, 0)
			isWrong(t, dialect, []int{'*', '[', ')', p}, api.ErrRange, 0)
		}
	}
}

// G4: what is met first from the left, and where.
func TestFaults(t *testing.T) {
	for s, want := range map[string]api.Fault{
		// Of chapter 5, where the token begins.
		`ab\`: {Err: api.ErrForm, At: 2}, `a(?x`: {Err: api.ErrForm, At: 1}, `\x{110000}`: {Err: api.ErrRange}, `(a{3,2}`: {Err: api.ErrRange, At: 2}, `a{101}`: {Err: api.ErrMany, At: 1}, `a{3,101}`: {Err: api.ErrMany, At: 1}, `()\k<0>`: {Err: api.ErrRange, At: 2}, `\q)`: {Err: api.ErrForm}, `)\q`: {Err: api.ErrForm}, `*\x{110000}`: {Err: api.ErrForm}, `a\x{110000}*****`: {Err: api.ErrRange, At: 1}, `a*****\x{110000}`: {Err: api.ErrMany, At: 5},
		// Of chapter 6, at their points.
		`[`: {Err: api.ErrForm, At: 1}, `[]`: {Err: api.ErrForm, At: 2}, `a[b`: {Err: api.ErrForm, At: 3}, `ab[b-a]`: {Err: api.ErrRange, At: 5}, `(a[[:x:]])`: {Err: api.ErrNone, At: 3}, `x[\q]`: {Err: api.ErrForm, At: 2}, `[` + strings.Repeat("[", 21): {Err: api.ErrMany, At: 21}, `[a]]b-a[`: {Err: api.ErrForm, At: 8}, `[)`: {Err: api.ErrForm, At: 2}, `[\x{110000}]`: {Err: api.ErrRange, At: 1},
		// Of its own.
		`)`: {Err: api.ErrForm}, `a)`: {Err: api.ErrForm, At: 1}, `()a)b)`: {Err: api.ErrForm, At: 3}, `a|)`: {Err: api.ErrForm, At: 2}, `(?i))`: {Err: api.ErrForm, At: 4},
		`(`: {Err: api.ErrForm, At: 1}, `(a`: {Err: api.ErrForm, At: 2}, `(a|`: {Err: api.ErrForm, At: 3}, `((a)`: {Err: api.ErrForm, At: 4}, `(?:é`: {Err: api.ErrForm, At: 4}, `(?<=(?>`: {Err: api.ErrForm, At: 7}, `(?i:`: {Err: api.ErrForm, At: 4}, `((?i)`: {Err: api.ErrForm, At: 5},
		`*`: {Err: api.ErrForm}, `{2}`: {Err: api.ErrForm}, `a|*`: {Err: api.ErrForm, At: 2}, `a|b|+?`: {Err: api.ErrForm, At: 4}, `(*)`: {Err: api.ErrForm, At: 1}, `(?:?)`: {Err: api.ErrForm, At: 3}, `(a|*)`: {Err: api.ErrForm, At: 3}, `(?=*`: {Err: api.ErrForm, At: 3}, `*)`: {Err: api.ErrForm},
		`(?i)*`: {Err: api.ErrForm, At: 4}, `a(?i)*`: {Err: api.ErrForm, At: 5}, `a*(?-i){2}`: {Err: api.ErrForm, At: 7}, `((?i)?)`: {Err: api.ErrForm, At: 5}, `(?i)*****`: {Err: api.ErrForm, At: 4}, `a|(?i)*`: {Err: api.ErrForm, At: 6},
		`a*****`: {Err: api.ErrMany, At: 5}, `a*?+?*?{2}{3}`: {Err: api.ErrMany, At: 10}, `a*+*+*+*+*+`: {Err: api.ErrMany, At: 9}, `(ab{1}{1}{1}{1}{1}`: {Err: api.ErrMany, At: 15}, `(a)*****)`: {Err: api.ErrMany, At: 7}, `(?:a****)*****`: {Err: api.ErrMany, At: 13},
		`(?<x>)(?<x>)`: {Err: api.ErrTwice, At: 6}, `(?<x>(?<x>`: {Err: api.ErrTwice, At: 5}, `(?<x>)(?<y>)|(?<x>`: {Err: api.ErrTwice, At: 13}, `(?<x>)(?<x>))`: {Err: api.ErrTwice, At: 6}, `(?<x>)(?<x>\q`: {Err: api.ErrTwice, At: 6},
		`\k<-1>`: {Err: api.ErrNone}, `()\k<-2>`: {Err: api.ErrNone, At: 2}, `\k<-1>()`: {Err: api.ErrNone}, `()(\k<-3>`: {Err: api.ErrNone, At: 3}, `\k<-1>)`: {Err: api.ErrNone}, `a\k<-999>`: {Err: api.ErrNone, At: 1}, `\k<-1>\q`: {Err: api.ErrNone}, `\k<-1>*****`: {Err: api.ErrNone},
		// Behind all that.
		`\1`: {Err: api.ErrNone}, `(a)\2`: {Err: api.ErrNone, At: 3}, `a\k<x>`: {Err: api.ErrNone, At: 1}, `\k<999>`: {Err: api.ErrNone}, `\2()\k<x>`: {Err: api.ErrNone}, `()\1\k<x>\2`: {Err: api.ErrNone, At: 4}, `(?<x>)\k<X>`: {Err: api.ErrNone, At: 6}, `()\k<-1>\2`: {Err: api.ErrNone, At: 8}, `\99`: {Err: api.ErrNone}, `()\11`: {Err: api.ErrNone, At: 2},
		`\1)`: {Err: api.ErrForm, At: 2}, `(\2`: {Err: api.ErrForm, At: 3}, `\k<x>*****`: {Err: api.ErrMany, At: 9}, `\2\k<-1>`: {Err: api.ErrNone, At: 2}, `\k<y>(?<x>)(?<x>)`: {Err: api.ErrTwice, At: 11}, `\k<x>\q`: {Err: api.ErrForm, At: 5},
	} {
		isWrong(t, api.DialectRuby, pts(s), want.Err, want.At)
	}
	for s, want := range map[string]api.Fault{
		`)`: {Err: api.ErrForm}, `(`: {Err: api.ErrForm, At: 1}, `(?:a)`: {Err: api.ErrForm, At: 1}, `a|*`: {Err: api.ErrForm, At: 2}, `a{`: {Err: api.ErrForm, At: 1}, `a{x`: {Err: api.ErrForm, At: 1}, `a*?+*?`: {Err: api.ErrMany, At: 5}, `a{2,1}`: {Err: api.ErrRange, At: 1}, `a[\q`: {Err: api.ErrForm, At: 4}, `\`: {Err: api.ErrForm}, `[[:^alpha:]]`: {Err: api.ErrForm, At: 3}, `[b-\]`: {Err: api.ErrRange, At: 3},
	} {
		isWrong(t, api.DialectPosix, pts(s), want.Err, want.At)
	}
	for s, want := range map[string]api.Fault{
		`\)`: {Err: api.ErrForm}, `a\(`: {Err: api.ErrForm, At: 3}, `*`: {Err: api.ErrForm}, `\(*\)`: {Err: api.ErrForm, At: 2}, `a\|+`: {Err: api.ErrForm, At: 3}, `a\{2}`: {Err: api.ErrForm, At: 1}, `a*?+*?`: {Err: api.ErrMany, At: 5}, `\1`: {Err: api.ErrNone}, `\(\)\2\3`: {Err: api.ErrNone, At: 4}, `\1\)`: {Err: api.ErrForm, At: 2}, `[`: {Err: api.ErrForm, At: 1},
	} {
		isWrong(t, api.DialectEmacs, pts(s), want.Err, want.At)
	}
}

// G4: how deep TokenOpens may be in one another, and how many groups there may be; of one token ErrMany comes ahead of ErrTwice.
func TestLimits(t *testing.T) {
	opens := []string{"(", "(?:", "(?>", "(?=", "(?!", "(?<=", "(?<!", "(?i:", "(?-i:"}
	deep := func(n int) (string, string) { // all kinds of them, but groups no more than there may be
		s := ""
		for i := range n {
			s += opens[(i+1)%len(opens)]
		}
		return s, strings.Repeat(")", n)
	}
	open, end := deep(api.MaxDeep)
	if _, fault := parse.Parse(api.DialectRuby, pts(open+"a"+end), false); fault != (api.Fault{}) {
		t.Errorf("MaxDeep: %v", fault)
	}
	if _, fault := parse.Parse(api.DialectRuby, pts(open+end+open+"[[a]]"+end), false); fault != (api.Fault{}) {
		t.Errorf("MaxDeep twice: %v", fault)
	}
	for _, o := range opens {
		isWrong(t, api.DialectRuby, pts(open+"a"+o+")"+end), api.ErrMany, len(open)+1)
		isWrong(t, api.DialectRuby, pts("()"+open+o), api.ErrMany, len(open)+2)
	}
	means(t, api.DialectRuby, strings.Repeat("(?:", 19)+"(?i)(?i)(a)"+strings.Repeat(")", 19), false, "group1([Aa])")
	groups := strings.Repeat("()", api.MaxGroups)
	means(t, api.DialectRuby, groups+"(?:)(?>a)", false, "row("+manyGroups(api.MaxGroups)+" atomic([a]))")
	means(t, api.DialectPosix, groups, false, "row("+manyGroups(api.MaxGroups)+")")
	isWrong(t, api.DialectRuby, pts(groups+"a()"), api.ErrMany, 41)
	isWrong(t, api.DialectPosix, pts(groups+"("), api.ErrMany, 40)
	isWrong(t, api.DialectEmacs, pts(strings.Repeat(`\(\)`, 20)+`\(`), api.ErrMany, 80)
	isWrong(t, api.DialectPosix, pts(strings.Repeat("(", 20)+"(*"), api.ErrMany, 20)
	isWrong(t, api.DialectPosix, pts(strings.Repeat("(", 20)+"*("), api.ErrForm, 20)
	isWrong(t, api.DialectRuby, pts("(?<x>)"+groups[2:]+"(?<x>)"), api.ErrMany, 44)
	isWrong(t, api.DialectRuby, pts("(?<x>)"+open+"(?<x>)"), api.ErrMany, 6+len(open))
	isWrong(t, api.DialectRuby, pts("(?<x>)"+groups[4:]+"(?<x>)"), api.ErrTwice, 42)
}

// G4: all of MaxPattern points, in shapes that have the most nodes, are few enough.
func TestMostNodes(t *testing.T) {
	for _, piece := range []string{"|", "(?:|)a", "ab|", "a****", "(?:|)****", "^"} {
		s := strings.Repeat(piece, api.MaxPattern/len(piece))
		if _, fault := parse.Parse(api.DialectRuby, pts(s), true); fault != (api.Fault{}) {
			t.Errorf("many %q: %v", piece, fault)
		}
	}
}
