package code_test

import (
	"fmt"
	"slices"
	"strings"
	"testing"

	"thicket/api"
	"thicket/code"
	"thicket/match"
	"thicket/parse"
)

func pts(s string) []int {
	var l []int
	for _, c := range s {
		l = append(l, int(c))
	}
	return l
}

func parsed(t *testing.T, s string) api.Pattern {
	t.Helper()
	p, fault := parse.Parse(api.DialectRuby, pts(s), false)
	if fault != (api.Fault{}) {
		t.Fatalf("%q: %v", s, fault)
	}
	return p
}

// found is a match in short: where it is, and what groups have; or that there is none.
func found(m api.Match, ok bool) string {
	if !ok {
		if m.From != 0 || m.To != 0 || len(m.Groups) != 0 {
			return fmt.Sprintf("none, but %v", m)
		}
		return "none"
	}
	l := []string{fmt.Sprintf("%d-%d", m.From, m.To)}
	for _, g := range m.Groups {
		if g.From == -1 && g.To == -1 {
			l = append(l, "-")
		} else {
			l = append(l, fmt.Sprintf("%d-%d", g.From, g.To))
		}
	}
	return strings.Join(l, " ")
}

// told is an answer in short.
func told(m api.Match, ok bool, burnt int, err api.Errno) string {
	s := fmt.Sprintf("%s; burnt %d", found(m, ok), burnt)
	if err != api.OK {
		s += fmt.Sprintf(", error %d", err)
	}
	return s
}

func failed(err api.Errno) string { return fmt.Sprintf("none; burnt 0, error %d", err) }

func anyPoint() []api.Range { return []api.Range{{From: 0, To: api.MaxPoint}} }

func set(points string) api.Op {
	op := api.Op{Do: api.OpSet}
	for _, p := range points {
		op.Set = append(op.Set, api.Range{From: int(p), To: int(p)})
	}
	return op
}

var (
	take = api.Op{Do: api.OpSet, Set: anyPoint()}
	fail = api.Op{Do: api.OpFail}
	done = api.Op{Do: api.OpMatch}
)

func jump(to int) api.Op             { return api.Op{Do: api.OpJump, To: to} }
func split(to, other int) api.Op     { return api.Op{Do: api.OpSplit, To: to, Other: other} }
func save(group, counter int) api.Op { return api.Op{Do: api.OpSave, To: group, Other: counter} }
func look(kind int) api.Op           { return api.Op{Do: api.OpLook, Kind: kind} }
func again(group int) api.Op         { return api.Op{Do: api.OpAgain, To: group} }
func folded(group int) api.Op        { return api.Op{Do: api.OpAgain, To: group, Fold: true} }
func mark(counter int) api.Op        { return api.Op{Do: api.OpMark, To: counter} }
func cut(counter int) api.Op         { return api.Op{Do: api.OpCut, To: counter} }
func cutBack(counter int) api.Op     { return api.Op{Do: api.OpCut, To: counter, Back: true} }
func count(counter, n int) api.Op    { return api.Op{Do: api.OpCount, To: counter, Least: n} }
func moved(counter, other int) api.Op {
	return api.Op{Do: api.OpMoved, To: counter, Other: other}
}
func back(counter int) api.Op { return api.Op{Do: api.OpBack, To: counter} }
func more(counter, least, other int) api.Op {
	return api.Op{Do: api.OpMore, To: counter, Least: least, Other: other}
}
func under(counter, least, other int) api.Op {
	return api.Op{Do: api.OpUnder, To: counter, Least: least, Other: other}
}

// program of some operations, with two groups and two counters.
func program(ops ...api.Op) api.Program { return api.Program{Ops: ops, Groups: 2, Counters: 2} }

// K1: each operation, by itself and where it meets others.
func TestOperations(t *testing.T) {
	a, b := set("a"), set("b")
	for i, c := range []struct {
		p    api.Program
		text string
		at   int
		want string
	}{
		{program(done), "ab", 1, "1-1 - -; burnt 1"},
		{program(fail), "ab", 1, "none; burnt 1"},
		{api.Program{Ops: []api.Op{done}}, "", 0, "0-0; burnt 1"},

		{program(a, done), "ab", 0, "0-1 - -; burnt 2"},
		{program(a, done), "ab", 1, "none; burnt 1"},
		{program(a, done), "ab", 2, "none; burnt 1"},
		{program(set(""), done), "ab", 0, "none; burnt 1"},
		{program(set("\n,é"), take, done), "éa", 0, "0-3 - -; burnt 3"},

		{program(jump(2), fail, done), "", 0, "0-0 - -; burnt 2"},
		{program(split(1, 3), a, done, b, done), "a", 0, "0-1 - -; burnt 3"},
		{program(split(1, 3), a, done, b, done), "b", 0, "0-1 - -; burnt 4"},
		{program(split(1, 3), a, done, b, done), "c", 0, "none; burnt 3"},
		{program(split(3, 1), a, done, done), "a", 0, "0-0 - -; burnt 2"},
		{program(split(1, 4), split(2, 3), fail, fail, take, done), "a", 0, "0-1 - -; burnt 6"},

		{program(take, mark(1), take, save(2, 1), done), "abc", 0, "0-2 - 1-2; burnt 5"},
		{program(mark(0), save(1, 0), done), "ab", 1, "1-1 1-1 -; burnt 3"},
		{program(take, save(1, 0), done), "abc", 1, "1-2 0-2 -; burnt 3"},
		{program(save(1, 1), mark(1), take, save(1, 1), done), "abc", 1, "1-2 1-2 -; burnt 5"},
		{program(save(1, 0), take, mark(0), count(0, 1), back(0), save(1, 0), done), "ab", 0, "0-0 - -; burnt 7"},

		{program(again(1), done), "ab", 0, "none; burnt 1"},
		{program(folded(2), done), "ab", 0, "none; burnt 1"},
		{program(save(1, 0), again(1), take, done), "ab", 0, "0-1 0-0 -; burnt 4"},
		{program(take, take, save(1, 0), again(1), done), "abab", 0, "0-4 0-2 -; burnt 5"},
		{program(take, take, save(1, 0), again(1), done), "aba", 0, "none; burnt 4"},
		{program(take, take, save(1, 0), again(1), done), "abaB", 0, "none; burnt 4"},
		{program(take, take, save(1, 0), folded(1), done), "abaB", 0, "0-4 0-2 -; burnt 5"},
		{program(take, take, save(1, 0), folded(1), done), "kaKb", 0, "none; burnt 4"},
		{program(take, save(2, 0), folded(2), done), "k\u212a", 0, "0-4 - 0-1; burnt 4"},

		{program(mark(0), split(2, 5), a, cut(0), fail, done), "a", 0, "none; burnt 5"},
		{program(mark(0), split(2, 5), a, cut(0), fail, done), "b", 0, "0-0 - -; burnt 4"},
		{program(split(1, 6), mark(0), split(3, 5), cut(0), fail, done, take, done), "a", 0, "0-1 - -; burnt 7"},
		{program(split(1, 5), cut(0), fail, fail, fail, done), "a", 0, "none; burnt 3"},
		{program(split(1, 6), mark(0), cut(1), split(4, 6), cut(0), fail, done), "a", 0, "0-0 - -; burnt 7"},
		{program(split(1, 5), mark(0), cut(1), cut(0), fail, done), "a", 0, "none; burnt 5"},
		{program(take, mark(0), take, take, cutBack(0), done), "abc", 0, "0-1 - -; burnt 6"},
		{program(take, mark(0), take, take, cut(0), done), "abc", 0, "0-3 - -; burnt 6"},
		{program(take, cutBack(0), done), "abc", 1, "1-0 - -; burnt 3"},
		{program(split(1, 4), mark(0), cutBack(0), fail, take, done), "abc", 1, "1-2 - -; burnt 6"},

		{program(under(0, 1, 2), fail, done), "", 0, "0-0 - -; burnt 2"},
		{program(under(0, 0, 2), fail, done), "", 0, "none; burnt 2"},
		{program(count(1, 2), under(1, 3, 3), fail, done), "", 0, "0-0 - -; burnt 3"},
		{program(count(1, 3), under(1, 3, 3), fail, done), "", 0, "none; burnt 3"},
		{program(count(1, 3), under(0, 3, 3), fail, done), "", 0, "0-0 - -; burnt 3"},
		{program(count(0, 1), mark(0), under(0, 1, 4), done, fail), "", 0, "0-0 - -; burnt 4"},
		{program(more(0, 1, 2), done, fail), "", 0, "0-0 - -; burnt 2"},
		{program(more(0, 2, 2), fail, done), "", 0, "0-0 - -; burnt 2"},
		{program(take, more(0, 3, 0), done), "aaaa", 0, "0-3 - -; burnt 7"},
		{program(take, more(0, 3, 0), done), "aa", 0, "none; burnt 5"},
		{program(count(0, 999), more(0, 1000, 3), done, fail), "", 0, "0-0 - -; burnt 3"},
		{program(count(0, 998), more(0, 1000, 3), fail, done), "", 0, "0-0 - -; burnt 3"},
		{program(mark(0), count(0, 1000), more(0, 1000, 5), back(0), done, fail), strings.Repeat("a", 1000), 1000, "1000-0 - -; burnt 5"},

		{program(moved(0, 2), fail, done), "ab", 0, "0-0 - -; burnt 2"},
		{program(moved(0, 2), fail, done), "ab", 1, "none; burnt 2"},
		{program(mark(1), moved(1, 3), fail, done), "ab", 1, "1-1 - -; burnt 3"},
		{program(mark(1), take, moved(1, 4), done, fail), "ab", 1, "1-2 - -; burnt 4"},

		{program(mark(0), count(0, 1), back(0), done), "ab", 0, "none; burnt 3"},
		{program(mark(0), count(0, 2), back(0), done), "éab", 3, "3-0 - -; burnt 4"},
		{program(mark(0), count(0, 1), back(0), take, take, done), "éab", 2, "2-3 - -; burnt 6"},
		{program(back(0), done), "ab", 2, "2-0 - -; burnt 2"},
		{program(mark(0), take, back(0), done), "ab", 1, "1-1 - -; burnt 4"},
		{program(count(0, 1), back(0), done), "ab", 2, "none; burnt 2"},

		// What was known when a way back was laid is known again: where one was, groups, and each counter's number, place and ways.
		{program(split(1, 6), take, count(0, 5), mark(0), save(1, 1), fail, under(0, 1, 8), fail, moved(0, 10), fail, done), "a", 0, "0-0 - -; burnt 9"},
		{program(save(1, 0), take, mark(0), count(0, 1), split(5, 10), take, mark(0), more(0, 0, 0), save(1, 0), fail, back(0), done), "ab", 0, "0-0 0-0 -; burnt 12"},
		{program(mark(0), split(2, 6), split(3, 5), mark(0), fail, cut(0), fail), "ab", 0, "none; burnt 7"},
		{program(mark(0), split(2, 6), split(3, 5), mark(0), fail, fail, done), "ab", 0, "0-0 - -; burnt 7"},
	} {
		if err := code.Check(c.p); err != api.OK {
			t.Errorf("%d: error %d", i, err)
		}
		if s := told(code.Run(c.p, api.EncUTF8, c.text, c.at, 100)); s != c.want {
			t.Errorf("%d on %.10q at %d: %s, must be %s", i, c.text, c.at, s, c.want)
		}
	}
}

// K1: OpLook is as the nodes that look at a place.
func TestLooks(t *testing.T) {
	text := "a\n_b -c\n\n\u0661"
	for kind := api.NodeLineStart; kind <= api.NodeNoWord; kind++ {
		p := api.Pattern{Tree: api.Node{Kind: kind}}
		yes := 0
		for at := range len(text) + 1 {
			m, ok, _, err := match.At(p, api.EncUTF8, text, at, 1)
			if err != api.OK { // no point begins there
				continue
			}
			want := told(m, ok, 1, api.OK)
			if ok {
				want = told(m, ok, 2, api.OK)
				yes++
			}
			if s := told(code.Run(api.Program{Ops: []api.Op{look(kind), done}}, api.EncUTF8, text, at, 9)); s != want {
				t.Errorf("%d at %d: %s, must be %s", kind, at, s, want)
			}
		}
		if yes == 0 {
			t.Errorf("%d is nowhere", kind)
		}
	}
}

// K3: errors, in their order.
func TestRunErrors(t *testing.T) {
	right, wrong := program(take, take, done), program(take, take, done, take)
	forever := program(jump(0))
	long := strings.Repeat("a", api.MaxText)
	for i, c := range []struct {
		p        api.Program
		enc      int
		text     string
		at, fuel int
		want     string
	}{
		{wrong, 0, long + "a", -1, -1, failed(api.ErrState)},
		{api.Program{Ops: []api.Op{{}}}, 0, "\xff", -1, -1, failed(api.ErrKind)},
		{api.Program{}, 1, "ab", 0, 9, failed(api.ErrState)},
		{right, 0, long + "a", -1, -1, failed(api.ErrKind)},
		{right, 5, "ab", 0, 9, failed(api.ErrKind)},
		{right, 1, long + "\xff", -1, -1, failed(api.ErrMany)},
		{right, 1, long, 0, 9, "0-2 - -; burnt 3"},
		{right, 1, long, api.MaxText - 2, 9, "3998-4000 - -; burnt 3"},
		{right, 1, "ab\xff", -1, -1, failed(api.ErrForm)},
		{right, 3, "a\x00b", 0, 9, failed(api.ErrForm)},
		{right, 1, "ab", -1, 9, failed(api.ErrRange)},
		{right, 1, "ab", 3, 9, failed(api.ErrRange)},
		{right, 1, "éab", 1, 9, failed(api.ErrRange)},
		{right, 2, "a\x00b\x00", 1, 9, failed(api.ErrRange)},
		{right, 1, "ab", 1<<63 - 1, 9, failed(api.ErrRange)},
		{right, 1, "ab", -1 << 63, 9, failed(api.ErrRange)},
		{right, 1, "ab", 0, -1, failed(api.ErrRange)},
		{right, 1, "ab", 0, api.MaxFuel + 1, failed(api.ErrRange)},
		{right, 1, "ab", 0, api.MaxFuel, "0-2 - -; burnt 3"},
		{right, 1, "ab", 0, 3, "0-2 - -; burnt 3"},
		{right, 1, "ab", 0, 2, failed(api.ErrFuel)},
		{right, 1, "ab", 0, 0, failed(api.ErrFuel)},
		{right, 1, "ab", 1, 2, "none; burnt 2"},
		{right, 1, "ab", 1, 1, failed(api.ErrFuel)},
		{forever, 1, "ab", 0, 5, failed(api.ErrFuel)},
		{forever, 1, "ab", 0, api.MaxFuel, failed(api.ErrFuel)},
		{right, 2, "a\x00\xe9\x00b\x00", 2, 9, "2-6 - -; burnt 3"},
		{right, 3, "\x00a\xd8\x3d\xde\x00", 0, 9, "0-6 - -; burnt 3"},
		{right, 4, "a\xff", 0, 9, "0-2 - -; burnt 3"},
	} {
		if s := told(code.Run(c.p, c.enc, c.text, c.at, c.fuel)); s != c.want {
			t.Errorf("%d: %s, must be %s", i, s, c.want)
		}
	}
}

// K3: there may be 100000 ways back, and no more, however many there were that are gone.
func TestWaysBack(t *testing.T) {
	endless := program(split(0, 1), done)
	// 100 times 1000 are laid, and as many as the third operation lays beside.
	full := func(first api.Op) api.Program {
		return program(first, count(1, 0), count(0, 0), split(4, 7), more(0, 1000, 3), more(1, 100, 2), done, fail)
	}
	gone := program(mark(0), split(2, 4), cut(0), jump(0), done)
	for i, c := range []struct {
		p    api.Program
		fuel int
		want string
	}{
		{endless, 100000, failed(api.ErrFuel)},
		{endless, 100001, failed(api.ErrMany)},
		{endless, api.MaxFuel, failed(api.ErrMany)},
		{full(jump(1)), api.MaxFuel, "0-0 - -; burnt 200203"},
		{full(split(1, 7)), 200199, failed(api.ErrFuel)},
		{full(split(1, 7)), 200200, failed(api.ErrMany)},
		{full(split(1, 7)), api.MaxFuel, failed(api.ErrMany)},
		{gone, api.MaxFuel, failed(api.ErrFuel)},
	} {
		if s := told(code.Run(c.p, api.EncUTF8, "", 0, c.fuel)); s != c.want {
			t.Errorf("%d: %s, must be %s", i, s, c.want)
		}
	}
}

// P2: what is handed in is only read; what comes out is new.
func TestMemory(t *testing.T) {
	shared := []api.Range{{From: 'a', To: 'b'}, {From: 1, To: 0}}[:1]
	kid := api.Node{Kind: api.NodeSet, Set: shared}
	kids := []api.Node{kid, {Kind: api.NodeGroup, Number: 1, Kids: []api.Node{kid}}, {Kind: 99}}[:2]
	p := api.Pattern{Tree: api.Node{Kind: api.NodeRow, Kids: kids}, Groups: 1}
	before := fmt.Sprint(kids[:3], shared[:2])
	x, err := code.Make(p)
	y, _ := code.Make(p)
	want := fmt.Sprint(y)
	if err != api.OK || fmt.Sprint(x) != want {
		t.Fatal(x, err)
	}
	if s := told(code.Run(x, api.EncUTF8, "ab", 0, 9)); s != "0-2 1-2; burnt 5" || fmt.Sprint(x) != want {
		t.Error(s)
	}
	for i := range x.Ops {
		spare := x.Ops[i].Set[:cap(x.Ops[i].Set)]
		for j := range spare {
			spare[j] = api.Range{From: -7 - i, To: -7}
		}
	}
	sets := 0
	for i, op := range x.Ops {
		if len(op.Set) > 0 {
			sets++
			if op.Set[0].From != -7-i {
				t.Error("two sets share memory")
			}
		}
	}
	clear(x.Ops[:cap(x.Ops)])
	if z, _ := code.Make(p); sets != 2 || fmt.Sprint(kids[:3], shared[:2]) != before || fmt.Sprint(y) != want || fmt.Sprint(z) != want {
		t.Error("what was handed in, or answered, is changed")
	}
	m, _, _, _ := code.Run(y, api.EncUTF8, "ab", 0, 9)
	clear(m.Groups[:cap(m.Groups)])
	if s := told(code.Run(y, api.EncUTF8, "ab", 0, 9)); s != "0-2 1-2; burnt 5" {
		t.Error(s)
	}
}

// K4: errors of Make are those of the pattern.
func TestMakeErrors(t *testing.T) {
	right := parsed(t, "(a)b")
	state, none, width := right, right, parsed(t, "(?<=a*)b")
	state.Groups = 2
	none.Names = []api.Name{{Text: "x", Number: 2}}
	round := make([]api.Node, 1)
	round[0] = api.Node{Kind: api.NodeAtomic, Kids: round}
	for _, c := range []struct {
		p    api.Pattern
		want api.Errno
	}{
		{right, api.OK}, {state, api.ErrState}, {none, api.ErrNone}, {width, api.ErrWidth},
		{api.Pattern{}, api.ErrKind}, {api.Pattern{Tree: round[0]}, api.ErrMany},
		{api.Pattern{Tree: api.Node{Kind: api.NodeSet, Number: 1}}, api.ErrForm},
	} {
		x, err := code.Make(c.p)
		if err != c.want || (err != api.OK) != (len(x.Ops) == 0 && x.Groups == 0 && x.Counters == 0) {
			t.Errorf("%v: %v %d, must be %d", c.p, x, err, c.want)
		}
	}
}

// K2: which fields which operation uses, and what they may be.
func TestCheckFields(t *testing.T) {
	fields := map[string]func(op *api.Op){
		"Set": func(op *api.Op) { op.Set = anyPoint() }, "To": func(op *api.Op) { op.To = 1 }, "Other": func(op *api.Op) { op.Other = 1 },
		"Kind": func(op *api.Op) { op.Kind = api.NodeWord }, "Least": func(op *api.Op) { op.Least = 1 },
		"Fold": func(op *api.Op) { op.Fold = true }, "Back": func(op *api.Op) { op.Back = true },
	}
	uses := map[int]string{
		api.OpSet: "Set", api.OpJump: "To", api.OpSplit: "To Other", api.OpSave: "To Other", api.OpLook: "Kind", api.OpAgain: "To Fold",
		api.OpMark: "To", api.OpCut: "To Back", api.OpCount: "To Least", api.OpMore: "To Least Other", api.OpUnder: "To Least Other",
		api.OpMoved: "To Other", api.OpBack: "To", api.OpFail: "", api.OpMatch: "",
	}
	for do := api.OpSet; do <= api.OpMatch; do++ {
		least := api.Op{Do: do, Set: []api.Range{}}
		switch do {
		case api.OpSave, api.OpAgain:
			least.To = 1
		case api.OpLook:
			least.Kind = api.NodeLineStart
		}
		if err := code.Check(program(least, done)); err != api.OK {
			t.Errorf("%d alone: %d", do, err)
		}
		for name, put := range fields {
			op, want := least, api.ErrForm
			put(&op)
			if slices.Contains(strings.Fields(uses[do]), name) {
				want = api.OK
			}
			if err := code.Check(program(op, done)); err != want {
				t.Errorf("%d with %s: %d, must be %d", do, name, err, want)
			}
		}
	}
	for _, do := range []int{-1 << 63, -1, 0, 16, 17, 1<<63 - 1} {
		if err := code.Check(program(api.Op{Do: do}, done)); err != api.ErrKind {
			t.Errorf("%d: %d", do, err)
		}
	}
}

// K2: numbers that may not stand there.
func TestCheckRanges(t *testing.T) {
	const far = 1<<63 - 1
	bad := func(ops ...api.Op) {
		t.Helper()
		for _, op := range ops {
			if err := code.Check(program(op, done)); err != api.ErrRange {
				t.Errorf("%v: %d", op, err)
			}
		}
	}
	good := func(ops ...api.Op) {
		t.Helper()
		for _, op := range ops {
			if err := code.Check(program(op, done)); err != api.OK {
				t.Errorf("%v: %d", op, err)
			}
		}
	}
	for _, n := range []int{-far - 1, -1, 2, far} { // neither an operation nor a counter
		bad(jump(n), split(n, 0), split(0, n), more(0, 0, n), under(0, 0, n), moved(0, n))
		bad(mark(n), cut(n), cutBack(n), count(n, 0), more(n, 0, 0), under(n, 0, 0), moved(n, 0), back(n), save(1, n))
	}
	for _, n := range []int{0, 1} {
		good(jump(n), split(n, 0), split(0, n), more(0, 0, n), under(0, 0, n), moved(0, n))
		good(mark(n), cut(n), cutBack(n), count(n, 0), more(n, 0, 0), under(n, 0, 0), moved(n, 0), back(n), save(1, n))
	}
	for _, n := range []int{-far - 1, -1, 0, 3, far} {
		bad(save(n, 0), again(n), folded(n))
	}
	good(save(1, 0), again(1), folded(1), save(2, 0), again(2), folded(2))
	for _, n := range []int{-far - 1, -1, 1001, far} {
		bad(count(0, n), more(0, n, 0), under(0, n, 0))
	}
	good(count(0, 0), more(0, 0, 0), under(0, 0, 0), count(0, 1000), more(0, 1000, 0), under(0, 1000, 0))
	for _, n := range []int{-1, 0, api.NodeSet, api.NodeRow, api.NodeAgain, far} {
		bad(look(n))
	}
	for n := api.NodeLineStart; n <= api.NodeNoWord; n++ {
		good(look(n))
	}
	none := api.Program{Ops: []api.Op{mark(0), done}}
	if err := code.Check(none); err != api.ErrRange {
		t.Errorf("no counters: %d", err)
	}
}

// K2: the whole, and which error comes first.
func TestCheckOrder(t *testing.T) {
	kind, form, many, range1, state := api.Op{}, api.Op{Do: api.OpMatch, To: 9}, api.Op{Do: api.OpSet, Set: make([]api.Range, api.MaxRanges+1)}, jump(-1), set("ba")
	full := slices.Repeat([]api.Op{done}, api.MaxOps)
	for i, c := range []struct {
		p    api.Program
		want api.Errno
	}{
		{api.Program{Ops: full, Groups: api.MaxGroups, Counters: api.MaxCounters}, api.OK},
		{api.Program{Ops: append([]api.Op{kind}, full...), Groups: -1}, api.ErrMany},
		{api.Program{Ops: []api.Op{kind}, Groups: api.MaxGroups + 1, Counters: -1}, api.ErrMany},
		{api.Program{Ops: []api.Op{kind}, Groups: -1, Counters: api.MaxCounters + 1}, api.ErrMany},
		{api.Program{Ops: []api.Op{kind}, Groups: -1}, api.ErrRange},
		{api.Program{Ops: []api.Op{kind}, Counters: -1 << 63}, api.ErrRange},
		{api.Program{}, api.ErrState},
		{program(kind, form), api.ErrKind},
		{program(form, kind), api.ErrForm},
		{program(many, kind), api.ErrMany},
		{program(range1, kind), api.ErrRange},
		{program(state, kind), api.ErrState},
		{program(set("ab"), done), api.ErrState},
		{program(set("ac"), done), api.OK},
		{program(api.Op{Do: api.OpSet, Set: []api.Range{{From: 0, To: api.MaxPoint + 1}}}, done), api.ErrRange},
		{program(api.Op{Do: api.OpSet, Set: []api.Range{{From: 5, To: 4}}}, take), api.ErrRange},
		{program(api.Op{Do: 16, To: 1}), api.ErrKind},
		{program(api.Op{Do: api.OpSet, Set: many.Set, Fold: true}), api.ErrForm},
		{program(api.Op{Do: api.OpJump, To: -1, Set: many.Set}), api.ErrForm},
		{program(take, kind), api.ErrKind},
		{program(take), api.ErrState},
		{program(done, split(0, 0)), api.ErrState},
		{program(done, look(api.NodeWord)), api.ErrState},
		{program(done, more(0, 0, 0)), api.ErrState},
		{program(jump(0)), api.OK},
		{program(fail), api.OK},
		{program(take, done), api.OK},
	} {
		if err := code.Check(c.p); err != c.want {
			t.Errorf("%d: %d, must be %d", i, err, c.want)
		}
	}
	for do := api.OpSet; do < api.OpFail; do++ {
		op := api.Op{Do: do}
		switch do {
		case api.OpSave, api.OpAgain:
			op.To = 1
		case api.OpLook:
			op.Kind = api.NodeWord
		case api.OpJump:
			continue
		}
		if err := code.Check(program(done, op)); err != api.ErrState {
			t.Errorf("%d at the end: %d", do, err)
		}
	}
}
