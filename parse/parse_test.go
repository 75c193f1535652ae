package parse_test

import (
	"fmt"
	"slices"
	"strings"
	"testing"

	"thicket/api"
	"thicket/fold"
	"thicket/parse"
	"thicket/set"
)

var dialects = []int{api.DialectRuby, api.DialectPosix, api.DialectEmacs}

var noDialects = []int{-1 << 63, -1, 0, 4, 1 << 32, 1<<32 + 1, 1<<63 - 1}

func pts(s string) []int {
	var l []int
	for _, c := range s {
		l = append(l, int(c))
	}
	return l
}

var kinds = []string{"", "empty", "", "lineStart", "lineEnd", "textStart", "textEnd", "word", "noWord", "row", "either", "group", "repeat", "atomic", "ahead", "notAhead", "behind", "notBehind", "again"}

// text of a tree: a set as a bracket expression, all others as `name` and their fields, and `(Kids)`; a field that is not of its kind is told behind a `!`.
func text(n api.Node) string {
	rest := n
	out := ""
	switch n.Kind {
	case api.NodeSet:
		out, rest.Set = setText(n.Set), nil
	case api.NodeGroup:
		out, rest.Number = fmt.Sprintf("group%d", n.Number), 0
	case api.NodeRepeat:
		out = fmt.Sprintf("repeat%d,%d,%d", n.Least, n.Most, n.Way)
		rest.Least, rest.Most, rest.Way = 0, 0, 0
	case api.NodeAgain:
		out, rest.Number, rest.Fold = fmt.Sprintf("again%d", n.Number), 0, false
		if n.Fold {
			out += "i"
		}
	default:
		out = kinds[n.Kind]
	}
	if len(rest.Set) != 0 || rest.Number != 0 || rest.Least != 0 || rest.Most != 0 || rest.Way != 0 || rest.Fold {
		out += fmt.Sprintf("!%+v", rest)
	}
	var kids []string
	for _, kid := range n.Kids {
		kids = append(kids, text(kid))
	}
	if len(kids) > 0 {
		out += "(" + strings.Join(kids, " ") + ")"
	}
	return out
}

func setText(l []api.Range) string {
	if slices.Equal(l, notNewline) {
		return "any"
	}
	out := ""
	for _, r := range l {
		out += string(rune(r.From))
		if r.To > r.From {
			out += "-" + string(rune(r.To))
		}
	}
	return "[" + out + "]"
}

var notNewline = []api.Range{{From: 0, To: 9}, {From: 11, To: api.MaxPoint}}

// means holds a tree, told as text, against the answer; groups are counted in it.
func means(t *testing.T, dialect int, s string, folded bool, want string, names ...string) {
	t.Helper()
	p, fault := parse.Parse(dialect, pts(s), folded)
	if fault != (api.Fault{}) || text(p.Tree) != want || p.Groups != strings.Count(want, "group") || nameText(p.Names) != strings.Join(names, " ") {
		t.Errorf("dialect %d, %q, folded %v: %v %s %d %v, must be %s %v", dialect, s, folded, fault, text(p.Tree), p.Groups, p.Names, want, names)
	}
}

func nameText(names []api.Name) string {
	var out []string
	for _, n := range names {
		out = append(out, fmt.Sprintf("%s=%d", n.Text, n.Number))
	}
	return strings.Join(out, " ")
}

// G1: each token that is an atom by itself.
func TestAtoms(t *testing.T) {
	for _, dialect := range dialects {
		means(t, dialect, "", false, "empty")
		means(t, dialect, "", true, "empty")
		means(t, dialect, "a", false, "[a]")
		means(t, dialect, "é", false, "[é]")
		means(t, dialect, "\\\\", false, "[\\]")
		means(t, dialect, ".", false, "any")
		means(t, dialect, ".", true, "any")
		means(t, dialect, "^", false, "lineStart")
		means(t, dialect, "$", false, "lineEnd")
		means(t, dialect, "[a-c]", false, "[a-c]")
		means(t, dialect, "[^]\\\\]]", false, "row("+setText(not(points(']', '\\')))+" []])")
	}
	for s, want := range map[string]string{`\A`: "textStart", `\z`: "textEnd", `\b`: "word", `\B`: "noWord", `\x{10ffff}`: "[\U0010ffff]", `\x0`: "[\x00]", `{`: "[{]", `}`: "[}]", `]`: "[]]", "[[ab]&&[bc]]": "[b]", "[a&&b]": "[]"} {
		means(t, api.DialectRuby, s, false, want)
		means(t, api.DialectRuby, s, true, strings.ReplaceAll(want, "[b]", "[Bb]"))
	}
	for s, want := range map[string]string{"\\`": "textStart", `\'`: "textEnd", `\b`: "word", `\B`: "noWord", "(": "[(]", ")": "[)]", "|": "[|]", "{": "[{]", `\q`: "[q]"} {
		means(t, api.DialectEmacs, s, false, want)
	}
	means(t, api.DialectPosix, `\d\(\1`, false, "row([d] [(] [1])")
	means(t, api.DialectPosix, `[\]`, false, `[\]`)
	means(t, api.DialectEmacs, `[\]a]`, false, `row([\] [a] []])`)
	means(t, api.DialectEmacs, `[a\]`, false, `[\a]`)
}

func points(l ...int) []api.Range {
	var out []api.Range
	for _, p := range l {
		out = append(out, api.Range{From: p, To: p})
	}
	return must(set.Make(out))
}

// must is what a call that cannot go wrong answers.
func must(l []api.Range, err api.Errno) []api.Range {
	if err != api.OK {
		panic(err)
	}
	return l
}

func not(l []api.Range) []api.Range { return must(set.Not(l)) }

// G1: points, classes and bracket expressions, folded, and classes before they are turned over.
func TestFolded(t *testing.T) {
	for _, dialect := range dialects {
		means(t, dialect, "k", true, "[Kk\u212a]")
		means(t, dialect, "\u212a", true, "[Kk\u212a]")
		means(t, dialect, "1", true, "[1]")
		means(t, dialect, "ab", true, "row([Aa] [Bb])")
		means(t, dialect, "[k-l]", true, "[K-Lk-l\u212a]")
		means(t, dialect, "[^k-l]", true, setText(not(points('k', 'K', 0x212a, 'l', 'L'))))
		means(t, dialect, "[[:upper:]]", true, setText(must(set.Fold(must(fold.Class("upper"))))))
	}
	for letter, name := range map[string]string{"d": "digit", "w": "word", "s": "space", "h": "xdigit"} {
		class := must(fold.Class(name))
		means(t, api.DialectRuby, `\`+letter, false, setText(class))
		means(t, api.DialectRuby, `\`+strings.ToUpper(letter), false, setText(not(class)))
		class = must(set.Fold(class))
		means(t, api.DialectRuby, `\`+letter, true, setText(class))
		means(t, api.DialectRuby, `\`+strings.ToUpper(letter), true, setText(not(class)))
	}
	means(t, api.DialectEmacs, `\w`, true, setText(must(set.Fold(must(fold.Class("word"))))))
	means(t, api.DialectEmacs, `\W`, true, setText(not(must(set.Fold(must(fold.Class("word")))))))
	means(t, api.DialectEmacs, `\(a\)\1`, true, "row(group1([Aa]) again1i)")
	means(t, api.DialectRuby, `(a)\1`, true, "row(group1([Aa]) again1i)")
	means(t, api.DialectRuby, `(a)\1`, false, "row(group1([a]) again1)")
}

// G1: rows and branches, and what is left out of them, or is part of another one.
func TestRows(t *testing.T) {
	for s, want := range map[string]string{
		"ab": "row([a] [b])", "abc": "row([a] [b] [c])", "a|b": "either([a] [b])", "a|b|c": "either([a] [b] [c])", "|": "either(empty empty)", "a|": "either([a] empty)", "|a": "either(empty [a])", "||": "either(empty empty empty)",
		"ab|cd": "either(row([a] [b]) row([c] [d]))", "(?:)": "empty", "(?:a)": "[a]", "(?:ab)": "row([a] [b])", "(?:a|b)": "either([a] [b])", "(?:|)": "either(empty empty)",
		"(?:ab)c": "row([a] [b] [c])", "a(?:bc)": "row([a] [b] [c])", "a(?:b(?:c(?:de)))f": "row([a] [b] [c] [d] [e] [f])", "(?:ab)(?:cd)": "row([a] [b] [c] [d])",
		"(?:)a": "[a]", "a(?:)": "[a]", "(?:)a(?:)b(?:)": "row([a] [b])", "(?:)(?:)": "empty", "(?:(?:))": "empty", "(?:(?:)a)b": "row([a] [b])", "(?:)|a": "either(empty [a])", "(?:)(ab)": "group1(row([a] [b]))",
		"(?:a|b)|c": "either([a] [b] [c])", "a|(?:b|c)": "either([a] [b] [c])", "a|(?:b|(?:c|d))|e": "either([a] [b] [c] [d] [e])", "(?:|)|": "either(empty empty empty)", "(?:a|b)(?:)|c": "either([a] [b] [c])",
		"(?:a|b)c": "row(either([a] [b]) [c])", "(?:ab|c)d|e": "either(row(either(row([a] [b]) [c]) [d]) [e])", "(?:|)a": "row(either(empty empty) [a])", "(?:a|b)(?:c|d)": "row(either([a] [b]) either([c] [d]))",
		"(ab)c": "row(group1(row([a] [b])) [c])", "(a|b)|c": "either(group1(either([a] [b])) [c])", "()": "group1(empty)", "()a": "row(group1(empty) [a])", "(|)": "group1(either(empty empty))",
		"(?>ab)c": "row(atomic(row([a] [b])) [c])", "(?>a|b)|c": "either(atomic(either([a] [b])) [c])", "(?>)": "atomic(empty)", "(?=a)": "ahead([a])", "(?!a)": "notAhead([a])", "(?<=a)": "behind([a])", "(?<!a|bc)": "notBehind(either([a] row([b] [c])))", "(?=(?:))": "ahead(empty)",
		"(?i:)a": "[a]", "(?i)": "empty", "(?i)(?-i)": "empty", "a(?-i)": "[a]", "|(?i)": "either(empty empty)", "((?i))": "group1(empty)",
	} {
		means(t, api.DialectRuby, s, false, want)
	}
	for s, want := range map[string]string{"a|b": "either([a] [b])", "(a)|": "either(group1([a]) empty)", "(a(b|cd))": "group1(row([a] group2(either([b] row([c] [d])))))", "()(|)": "row(group1(empty) group2(either(empty empty)))"} {
		means(t, api.DialectPosix, s, false, want)
		means(t, api.DialectEmacs, strings.NewReplacer("(", `\(`, ")", `\)`, "|", `\|`).Replace(s), false, want)
	}
}

// G1: what is repeated is what is just ahead.
func TestRepeats(t *testing.T) {
	for s, want := range map[string]string{
		"a*": "repeat0,-1,1([a])", "a+": "repeat1,-1,1([a])", "a?": "repeat0,1,1([a])", "a*?": "repeat0,-1,2([a])", "a++": "repeat1,-1,3([a])", "a{2}": "repeat2,2,1([a])", "a{2,}?": "repeat2,-1,2([a])", "a{,3}+": "repeat0,3,3([a])", "a{0,100}": "repeat0,100,1([a])", "a{0}": "repeat0,0,1([a])",
		"ab*": "row([a] repeat0,-1,1([b]))", "a*b": "row(repeat0,-1,1([a]) [b])", "a|b*": "either([a] repeat0,-1,1([b]))", "a**": "repeat0,-1,1(repeat0,-1,1([a]))", "a*{2}": "repeat2,2,1(repeat0,-1,1([a]))", "a?{2}*{3}": "repeat3,3,1(repeat0,-1,1(repeat2,2,1(repeat0,1,1([a]))))",
		"(?:ab)*": "repeat0,-1,1(row([a] [b]))", "(?:a|b)*": "repeat0,-1,1(either([a] [b]))", "(?:a*)*": "repeat0,-1,1(repeat0,-1,1([a]))", "(?:)*": "repeat0,-1,1(empty)", "(?:)*a": "row(repeat0,-1,1(empty) [a])", "(?:(?i))*": "repeat0,-1,1(empty)", "(?i:)*": "repeat0,-1,1(empty)",
		"(a)*": "repeat0,-1,1(group1([a]))", "(?=a)*": "repeat0,-1,1(ahead([a]))", "^*": "repeat0,-1,1(lineStart)", `\b{2}`: "repeat2,2,1(word)", ".*": "repeat0,-1,1(any)", "[ab]*": "repeat0,-1,1([a-b])", `()\1*`: "row(group1(empty) repeat0,-1,1(again1))", `\d+`: "repeat1,-1,1(" + setText(must(fold.Class("digit"))) + ")",
		"(?:a****)*": "repeat0,-1,1(repeat0,-1,1(repeat0,-1,1(repeat0,-1,1(repeat0,-1,1([a])))))", "a****b****": "row(repeat0,-1,1(repeat0,-1,1(repeat0,-1,1(repeat0,-1,1([a])))) repeat0,-1,1(repeat0,-1,1(repeat0,-1,1(repeat0,-1,1([b])))))",
		"(?i)a*": "repeat0,-1,1([Aa])",
	} {
		means(t, api.DialectRuby, s, false, want)
	}
	means(t, api.DialectPosix, "a*?+{2}", false, "repeat2,2,1(repeat1,-1,1(repeat0,1,1(repeat0,-1,1([a]))))")
	means(t, api.DialectEmacs, `a*?+\{2\}`, false, "repeat2,2,1(repeat1,-1,1(repeat0,1,1(repeat0,-1,1([a]))))")
	means(t, api.DialectEmacs, "(*", false, "repeat0,-1,1([(])")
}

// G2: how far options reach.
func TestOptions(t *testing.T) {
	for s, want := range map[string]string{
		"(?i)a": "[Aa]", "a(?i)b": "row([a] [Bb])", "(?i)a(?-i)b": "row([Aa] [b])", "(?i)(?-i)a": "[a]", "(?-i)a": "[a]",
		"(?i)a|b": "either([Aa] [Bb])", "a|(?i)b|c": "either([a] [Bb] [Cc])", "(?i)a|(?-i)b|c": "either([Aa] [b] [c])",
		"((?i)a)b": "row(group1([Aa]) [b])", "((?i)a|b)c": "row(group1(either([Aa] [Bb])) [c])", "(?:(?i)a)b": "row([Aa] [b])", "(?:a(?i)b|c)d": "row(either(row([a] [Bb]) [Cc]) [d])", "(?i)((?-i)a)b": "row(group1([a]) [Bb])", "(?=(?i)a)b": "row(ahead([Aa]) [b])", "(?>(?i))b": "row(atomic(empty) [b])",
		"(?i:a)b": "row([Aa] [b])", "(?i:a|b)c": "row(either([Aa] [Bb]) [c])", "(?i:a(?-i)b)c": "row([Aa] [b] [c])", "(?i:(?-i:a)b)c": "row([a] [Bb] [c])", "(?i)a(?-i:b)c": "row([Aa] [b] [Cc])", "(?i:(a))b": "row(group1([Aa]) [b])", "(?i)(a)": "group1([Aa])", "(?i)(?:a)": "[Aa]",
		"(?i)[a]": "[Aa]", "(?i:[^a])[^a]": "row(" + setText(not(points('a', 'A'))) + " " + setText(not(points('a'))) + ")", `()(?i:\1)\1`: "row(group1(empty) again1i again1)", `()(?i)\1(?-i)\1`: "row(group1(empty) again1i again1)", `(?i:\k<1>)()`: "row(again1i group1(empty))",
		`(?i)\H`: setText(not(must(fold.Class("xdigit")))),
	} {
		means(t, api.DialectRuby, s, false, want)
	}
	for s, want := range map[string]string{
		"(?-i)a": "[a]", "a(?-i)b|c": "either(row([Aa] [b]) [c])", "((?-i)a)b": "row(group1([a]) [Bb])", "(?-i:a)b": "row([a] [Bb])", "(?i:a)b": "row([Aa] [Bb])", "(?-i:(?i)a)b": "row([Aa] [Bb])", "(?:a)": "[Aa]", `()\1(?-i:\1)`: "row(group1(empty) again1i again1)",
	} {
		means(t, api.DialectRuby, s, true, want)
	}
}

// G3: groups by numbers and names, and which one is meant again.
func TestGroups(t *testing.T) {
	means(t, api.DialectRuby, "((a)(b))(c)", false, "row(group1(row(group2([a]) group3([b]))) group4([c]))")
	means(t, api.DialectRuby, "(?:(a))(?>(b))(?=(c))|(?<!(d))", false, "either(row(group1([a]) atomic(group2([b])) ahead(group3([c]))) notBehind(group4([d])))")
	means(t, api.DialectRuby, "(?<x>a)", false, "group1([a])", "x=1")
	means(t, api.DialectRuby, "(?<z>(?<y>a)(b)(?<x9_>c))(?<X>d)", false, "row(group1(row(group2([a]) group3([b]) group4([c]))) group5([d]))", "z=1", "y=2", "x9_=4", "X=5")
	means(t, api.DialectRuby, "a(?<x>b|c)*", false, "row([a] repeat0,-1,1(group1(either([b] [c]))))", "x=1")
	for s, want := range map[string]string{
		`(a)\1`: "row(group1([a]) again1)", `\1(a)`: "row(again1 group1([a]))", `(\1)`: "group1(again1)", `(a)(b)\2\1`: "row(group1([a]) group2([b]) again2 again1)", `(a)\k<1>`: "row(group1([a]) again1)", `\2|()|()`: "either(again2 group1(empty) group2(empty))", `()\k<001>`: "row(group1(empty) again1)",
		`(a)\k<-1>`: "row(group1([a]) again1)", `(\k<-1>)`: "group1(again1)", `()()\k<-1>\k<-2>()`: "row(group1(empty) group2(empty) again2 again1 group3(empty))", `((a)\k<-1>\k<-2>)`: "group1(row(group2([a]) again2 again1))", `()(?:\k<-1>())\k<-1>`: "row(group1(empty) again1 group2(empty) again2)", `()(\k<-2>)`: "row(group1(empty) group2(again1))",
		strings.Repeat("()", 20) + `\20\k<-20>\k<20>`: "row(" + manyGroups(20) + " again20 again1 again20)",
	} {
		means(t, api.DialectRuby, s, false, want)
	}
	means(t, api.DialectRuby, `(?<x>a)\k<x>`, false, "row(group1([a]) again1)", "x=1")
	means(t, api.DialectRuby, `\k<y>(?<x>a)\k<x>()(?<y>b)`, false, "row(again3 group1([a]) again1 group2(empty) group3([b]))", "x=1", "y=3")
	means(t, api.DialectRuby, `(?<x>\k<x>\k<-1>\1)`, true, "group1(row(again1i again1i again1i))", "x=1")
	means(t, api.DialectEmacs, `\(a\)\(\2\1\)\10`, false, "row(group1([a]) group2(row(again2 again1)) again1 [0])")
	means(t, api.DialectEmacs, `\2\(\(\)\)`, false, "row(again2 group1(group2(empty)))")
}

func manyGroups(n int) string {
	var l []string
	for i := range n {
		l = append(l, fmt.Sprintf("group%d(empty)", i+1))
	}
	return strings.Join(l, " ")
}

// G4: Number tells the number of a name, whatever the pattern is.
func TestNumber(t *testing.T) {
	p, _ := parse.Parse(api.DialectRuby, pts("(?<b>)()(?<a>(?<B>))"), false)
	for name, want := range map[string]int{"b": 1, "a": 3, "B": 4, "": 0, "c": 0, "A": 0, "b ": 0, "ab": 0, "1": 0, "é": 0} {
		number, err := parse.Number(p, name)
		if number != want || (err == api.OK) != (want != 0) || err != api.OK && err != api.ErrNone {
			t.Errorf("%q: %d %d, must be %d", name, number, err, want)
		}
	}
	for _, p := range []api.Pattern{{}, {Groups: 1}, {Names: []api.Name{}}} {
		if number, err := parse.Number(p, "b"); number != 0 || err != api.ErrNone {
			t.Errorf("of no names: %d %d", number, err)
		}
	}
}
