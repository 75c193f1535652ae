package set_test

import (
	"slices"
	"testing"

	"thicket/api"
	"thicket/fold"
	"thicket/set"
)

func ranges(ends ...int) []api.Range {
	var l []api.Range
	for i := 0; i < len(ends); i += 2 {
		l = append(l, api.Range{From: ends[i], To: ends[i+1]})
	}
	return l
}

// row of n ranges, of long points each, from a point on, by points each further.
func row(n, from, long, by int) []api.Range {
	var l []api.Range
	for i := range n {
		l = append(l, api.Range{From: from + i*by, To: from + i*by + long - 1})
	}
	return l
}

func join(lists ...[]api.Range) []api.Range { return slices.Concat(lists...) }

// wrongs: lists that are no sets, by what Check tells of them.
func wrongs() map[string]struct {
	l   []api.Range
	err api.Errno
} {
	type wrong = struct {
		l   []api.Range
		err api.Errno
	}
	return map[string]wrong{
		"401":                     {row(401, 0, 1, 2), api.ErrMany},
		"401, a wrong end":        {join(row(400, 0, 1, 2), ranges(-1, 0)), api.ErrMany},
		"401, none rising":        {row(401, 5, 1, 0), api.ErrMany},
		"5000":                    {row(5000, 0, 1, 2), api.ErrMany},
		"From below 0":            {ranges(-1, 3), api.ErrRange},
		"both below 0":            {ranges(-5, -3), api.ErrRange},
		"To too great":            {ranges(0, api.MaxPoint+1), api.ErrRange},
		"both too great":          {ranges(api.MaxPoint+1, api.MaxPoint+1), api.ErrRange},
		"far below":               {ranges(-1<<63, 0), api.ErrRange},
		"far above":               {ranges(0, 1<<63-1), api.ErrRange},
		"32 bits of which fit":    {ranges(1<<32, 1<<32+5), api.ErrRange},
		"From more than To":       {ranges(5, 4), api.ErrRange},
		"From more, by much":      {ranges(api.MaxPoint, 0), api.ErrRange},
		"the last one wrong":      {ranges(1, 2, 4, 5, 9, 8), api.ErrRange},
		"wrong behind not rising": {ranges(5, 6, 1, 2, 9, 8), api.ErrRange},
		"wrong ahead of others":   {ranges(-1, 0, 5, 6, 1, 2), api.ErrRange},
		"touching":                {ranges(1, 3, 4, 5), api.ErrState},
		"one point shared":        {ranges(1, 3, 3, 5), api.ErrState},
		"one in the other":        {ranges(1, 9, 3, 5), api.ErrState},
		"the same twice":          {ranges(1, 3, 1, 3), api.ErrState},
		"falling":                 {ranges(5, 9, 1, 3), api.ErrState},
		"falling at the end":      {ranges(1, 3, 5, 9, 11, 12, 6, 7), api.ErrState},
		"400 of which two touch":  {join(row(399, 0, 1, 2), ranges(797, 798)), api.ErrState},
		"at the greatest point":   {ranges(0, api.MaxPoint, api.MaxPoint, api.MaxPoint), api.ErrState},
	}
}

// rights: lists that are sets.
func rights() [][]api.Range {
	alpha, _ := fold.Class("alpha")
	upper, _ := fold.Class("upper")
	return [][]api.Range{
		nil,
		{},
		ranges(0, 0),
		ranges(api.MaxPoint, api.MaxPoint),
		ranges(0, api.MaxPoint),
		ranges(0, 0, 2, 2),
		ranges(0, 0, api.MaxPoint, api.MaxPoint),
		ranges(1, api.MaxPoint-1),
		ranges(1, 3, 5, 9),
		ranges(1, 4, 6, 6, 8, 20),
		ranges(97, 122),
		ranges(65, 70, 97, 102),
		ranges('k', 'k', 223, 223, 962, 962),
		ranges(0xd700, 0xe0ff),
		ranges(0x7f, 0x80, 0x7ff, 0x800, 0xffff, 0x10000),
		ranges(0, 0xd7ff, 0xe000, api.MaxPoint),
		alpha,
		upper,
		row(400, 0, 1, 2),
		row(400, 1, 1, 2),
		row(400, 500000, 3, 7),
		row(150, 0, 5, 9),
	}
}

// bits of a set: of each point, whether it is in.
func bits(a []api.Range) []bool {
	b := make([]bool, api.MaxPoint+1)
	for _, r := range a {
		for p := r.From; p <= r.To; p++ {
			b[p] = true
		}
	}
	return b
}

// wanted is what a call must answer whose points these are.
func wanted(b []bool) ([]api.Range, api.Errno) {
	var l []api.Range
	for p := 0; p < len(b); p++ {
		if b[p] && (p == 0 || !b[p-1]) {
			l = append(l, api.Range{From: p})
		}
		if b[p] {
			l[len(l)-1].To = p
		}
	}
	if len(l) > api.MaxRanges {
		return nil, api.ErrMany
	}
	return l, api.OK
}

func told(t *testing.T, what string, l []api.Range, err api.Errno, want []api.Range, wantErr api.Errno) {
	t.Helper()
	if !slices.Equal(l, want) || err != wantErr {
		t.Errorf("%s: %d ranges, %v, error %d; must be %d, %v, error %d", what, len(l), head(l), err, len(want), head(want), wantErr)
	}
}

func head(l []api.Range) []api.Range { return l[:min(len(l), 8)] }

// C1: what Check tells, and that all but Make tell it.
func TestWrong(t *testing.T) {
	right := ranges(1, 3, 5, 9)
	for name, w := range wrongs() {
		if err := set.Check(w.l); err != w.err {
			t.Errorf("Check, %s: %d, must be %d", name, err, w.err)
		}
		one := func(call string, f func(a []api.Range) ([]api.Range, api.Errno)) {
			l, err := f(w.l)
			told(t, call+", "+name, l, err, nil, w.err)
		}
		one("Not", set.Not)
		one("Fold", set.Fold)
		two := func(call string, f func(a, b []api.Range) ([]api.Range, api.Errno)) {
			l, err := f(w.l, right)
			told(t, call+", the first: "+name, l, err, nil, w.err)
			l, err = f(right, w.l)
			told(t, call+", the second: "+name, l, err, nil, w.err)
			l, err = f(nil, w.l)
			told(t, call+", nothing, and "+name, l, err, nil, w.err)
			for other, v := range wrongs() {
				l, err = f(w.l, v.l)
				told(t, call+", "+name+", and "+other, l, err, nil, w.err)
			}
		}
		two("Union", set.Union)
		two("Meet", set.Meet)
		two("Less", set.Less)
		for _, p := range []int{-1 << 63, -1, 0, 2, 5, api.MaxPoint, api.MaxPoint + 1} {
			if ok, err := set.Has(w.l, p); ok || err != w.err {
				t.Errorf("Has %d, %s: %v %d, must be %d", p, name, ok, err, w.err)
			}
		}
		if n, err := set.Count(w.l); n != 0 || err != w.err {
			t.Errorf("Count, %s: %d %d, must be %d", name, n, err, w.err)
		}
	}
}

// C1: Make tells the first two errors, and mends what is the third.
func TestMakeWrong(t *testing.T) {
	for name, w := range wrongs() {
		l, err := set.Make(w.l)
		if w.err != api.ErrState {
			told(t, "Make, "+name, l, err, nil, w.err)
			continue
		}
		want, wantErr := wanted(bits(w.l))
		told(t, "Make, "+name, l, err, want, wantErr)
	}
}

// C1: sets pass Check, and Make makes them of themselves, in whichever order.
func TestRight(t *testing.T) {
	for i, a := range rights() {
		if err := set.Check(a); err != api.OK {
			t.Errorf("Check %d: %d", i, err)
		}
		l, err := set.Make(a)
		told(t, "Make", l, err, a, api.OK)
		b := slices.Clone(a)
		slices.Reverse(b)
		l, err = set.Make(b)
		told(t, "Make, falling", l, err, a, api.OK)
	}
}

// C1: ranges in any order, that overlap or touch.
func TestMake(t *testing.T) {
	for _, c := range [][2][]api.Range{
		{ranges(1, 4, 5, 9), ranges(1, 9)},
		{ranges(5, 9, 1, 4), ranges(1, 9)},
		{ranges(1, 4, 6, 9), ranges(1, 4, 6, 9)},
		{ranges(6, 9, 1, 4, 5, 5), ranges(1, 9)},
		{ranges(1, 9, 2, 3, 4, 5), ranges(1, 9)},
		{ranges(2, 3, 1, 9, 20, 20, 8, 12), ranges(1, 12, 20, 20)},
		{ranges(7, 7, 7, 7, 7, 7), ranges(7, 7)},
		{ranges(0, api.MaxPoint, api.MaxPoint, api.MaxPoint, 0, 0), ranges(0, api.MaxPoint)},
		{ranges(api.MaxPoint, api.MaxPoint, 0, api.MaxPoint-1), ranges(0, api.MaxPoint)},
		{row(400, 9, 1, 0), ranges(9, 9)},
		{row(400, 9, 1, 1), ranges(9, 408)},
	} {
		l, err := set.Make(c[0])
		told(t, "Make", l, err, c[1], api.OK)
	}
}

// C2: all calls of two sets, and of one, point by point.
func TestPoints(t *testing.T) {
	list := rights()
	all := make([][]bool, len(list))
	for i, a := range list {
		all[i] = bits(a)
	}
	of := func(a, b []bool, keep func(x, y bool) bool) ([]api.Range, api.Errno) {
		out := make([]bool, len(a))
		for p := range a {
			out[p] = keep(a[p], b[p])
		}
		return wanted(out)
	}
	for i, a := range list {
		for k, b := range list {
			l, err := set.Union(a, b)
			want, wantErr := of(all[i], all[k], func(x, y bool) bool { return x || y })
			told(t, "Union", l, err, want, wantErr)
			l, err = set.Meet(a, b)
			want, wantErr = of(all[i], all[k], func(x, y bool) bool { return x && y })
			told(t, "Meet", l, err, want, wantErr)
			l, err = set.Less(a, b)
			want, wantErr = of(all[i], all[k], func(x, y bool) bool { return x && !y })
			told(t, "Less", l, err, want, wantErr)
		}
		l, err := set.Not(a)
		want, wantErr := of(all[i], all[i], func(x, y bool) bool { return !x })
		told(t, "Not", l, err, want, wantErr)
		count := 0
		for _, in := range all[i] {
			if in {
				count++
			}
		}
		if n, err := set.Count(a); n != count || err != api.OK {
			t.Errorf("Count %d: %d %d, must be %d", i, n, err, count)
		}
		for p := -3; p <= 2000; p++ {
			hasPoint(t, a, all[i], p)
		}
		for _, r := range a {
			for _, p := range []int{r.From - 1, r.From, r.From + 1, r.To - 1, r.To, r.To + 1} {
				hasPoint(t, a, all[i], p)
			}
		}
		for _, p := range []int{-1 << 63, 1 << 32, 1<<32 + 2, 1<<63 - 1, api.MaxPoint - 1, api.MaxPoint, api.MaxPoint + 1} {
			hasPoint(t, a, all[i], p)
		}
	}
}

func hasPoint(t *testing.T, a []api.Range, in []bool, p int) {
	t.Helper()
	want, wantErr := false, api.ErrRange
	if p >= 0 && p <= api.MaxPoint {
		want, wantErr = in[p], api.OK
	}
	if ok, err := set.Has(a, p); ok != want || err != wantErr {
		t.Errorf("Has %d of %v: %v %d, must be %v %d", p, head(a), ok, err, want, wantErr)
	}
}

// C2: MaxRanges ranges, and one more.
func TestMany(t *testing.T) {
	for _, c := range []struct {
		name string
		f    func(a, b []api.Range) ([]api.Range, api.Errno)
		a, b []api.Range
		n    int
	}{
		{"Union", set.Union, row(200, 0, 1, 4), row(200, 2, 1, 4), 400},
		{"Union", set.Union, row(201, 0, 1, 4), row(200, 2, 1, 4), 401},
		{"Union", set.Union, row(400, 0, 1, 4), row(400, 2, 1, 4), 800},
		{"Union", set.Union, row(400, 0, 1, 4), row(400, 1, 3, 4), 1},
		{"Union", set.Union, row(400, 0, 1, 2), ranges(900, 901), 401},
		{"Union", set.Union, row(400, 0, 1, 2), ranges(798, 901), 400},
		{"Meet", set.Meet, row(201, 0, 7, 10), row(200, 5, 7, 10), 400},
		{"Meet", set.Meet, row(201, 0, 7, 10), row(201, 5, 7, 10), 401},
		{"Meet", set.Meet, row(400, 0, 7, 10), row(400, 5, 7, 10), 799},
		{"Less", set.Less, ranges(0, 9999), row(400, 0, 1, 2), 400},
		{"Less", set.Less, ranges(0, 9999), row(400, 1, 1, 2), 401},
		{"Less", set.Less, row(400, 0, 5, 6), row(400, 2, 1, 6), 800},
	} {
		l, err := c.f(c.a, c.b)
		wantErr := api.OK
		if c.n > api.MaxRanges {
			wantErr = api.ErrMany
			c.n = 0
		}
		if len(l) != c.n || err != wantErr {
			t.Errorf("%s: %d ranges, error %d; must be %d, %d", c.name, len(l), err, c.n, wantErr)
		}
	}
	for _, c := range []struct {
		a []api.Range
		n int
	}{
		{row(400, 0, 1, 2), 400},
		{join(row(399, 1, 1, 2), ranges(api.MaxPoint, api.MaxPoint)), 400},
		{row(399, 1, 1, 2), 400},
		{join(row(399, 0, 1, 2), ranges(api.MaxPoint, api.MaxPoint)), 399},
	} {
		if l, err := set.Not(c.a); len(l) != c.n || err != api.OK {
			t.Errorf("Not: %d ranges, error %d; must be %d", len(l), err, c.n)
		}
	}
	l, err := set.Not(row(400, 1, 1, 2))
	told(t, "Not", l, err, nil, api.ErrMany)
}

// C3: what the orbits of a set's points have, point by point, by chapter 2.
func TestFold(t *testing.T) {
	least := make([]int, api.MaxPoint+1)
	for p := range least {
		least[p], _ = fold.Least(p)
	}
	list := append(rights(),
		row(200, 64, 1, 7), row(300, 190, 2, 3), ranges(8490, 8491), ranges(7838, 7838), ranges(181, 181), ranges(956, 956), ranges(1024, 1024), ranges(1119, 1119), ranges(256, 256, 303, 303), ranges(304, 305, 912, 912, 930, 930))
	for _, a := range list {
		asked := make([]bool, api.MaxPoint+1)
		for _, r := range a {
			for p := r.From; p <= r.To; p++ {
				asked[least[p]] = true
			}
		}
		has := make([]bool, api.MaxPoint+1)
		for p := range has {
			has[p] = asked[least[p]]
		}
		want, wantErr := wanted(has)
		l, err := set.Fold(a)
		told(t, "Fold", l, err, want, wantErr)
	}
}

// C3: a point alone, each one.
func TestFoldAlone(t *testing.T) {
	for p := range api.MaxPoint + 1 {
		orbit, _ := fold.Orbit(p)
		var want []api.Range
		for _, q := range orbit {
			if last := len(want) - 1; last >= 0 && want[last].To == q-1 {
				want[last].To = q
			} else {
				want = append(want, api.Range{From: q, To: q})
			}
		}
		l, err := set.Fold(ranges(p, p))
		if !slices.Equal(l, want) || err != api.OK {
			t.Fatalf("Fold of %d: %v %d, must be %v", p, l, err, want)
		}
	}
}

func TestFoldKnown(t *testing.T) {
	for _, c := range [][2][]api.Range{
		{ranges('k', 'k'), ranges('K', 'K', 'k', 'k', 8490, 8490)},
		{ranges('a', 'c'), ranges('A', 'C', 'a', 'c')},
		{ranges('A', 'Z'), ranges('A', 'Z', 'a', 'z', 8490, 8490)},
		{ranges(223, 223, 962, 962), ranges(223, 223, 931, 931, 962, 963, 7838, 7838)},
		{ranges(256, 256), ranges(256, 257)},
		{ranges('1', '9'), ranges('1', '9')},
		{ranges(0, api.MaxPoint), ranges(0, api.MaxPoint)},
		{nil, nil},
	} {
		l, err := set.Fold(c[0])
		told(t, "Fold", l, err, c[1], api.OK)
	}
}

// C3: MaxRanges ranges, and one more.
func TestFoldMany(t *testing.T) {
	far := func(n int) []api.Range { return row(n, 100000, 1, 2) }
	a := ranges('a', 'a')
	l, err := set.Fold(join(a, far(398)))
	told(t, "Fold to 400", l, err, join(ranges('A', 'A', 'a', 'a'), far(398)), api.OK)
	l, err = set.Fold(join(a, far(399)))
	told(t, "Fold to 401", l, err, nil, api.ErrMany)
	l, err = set.Fold(join(ranges(256, 256), far(399)))
	told(t, "Fold of 400 to 400", l, err, join(ranges(256, 257), far(399)), api.OK)
}

// C4: laws, where none of the parts has too many ranges.
func TestLaws(t *testing.T) {
	must := func(l []api.Range, err api.Errno) []api.Range {
		t.Helper()
		if err != api.OK {
			t.Fatalf("error %d", err)
		}
		if err := set.Check(l); err != api.OK {
			t.Fatalf("%v is no set: %d", head(l), err)
		}
		return l
	}
	var list [][]api.Range
	for _, a := range rights() {
		if len(a) < 100 {
			list = append(list, a)
		}
	}
	for _, a := range list {
		notA := must(set.Not(a))
		told(t, "turned over twice", must(set.Not(notA)), api.OK, a, api.OK)
		folded := must(set.Fold(a))
		told(t, "folded twice", must(set.Fold(folded)), api.OK, folded, api.OK)
		n, _ := set.Count(a)
		m, _ := set.Count(notA)
		if n+m != api.MaxPoint+1 {
			t.Errorf("%d points, and %d others", n, m)
		}
		for _, b := range list {
			notB := must(set.Not(b))
			told(t, "the union turned over", must(set.Not(must(set.Union(a, b)))), api.OK, must(set.Meet(notA, notB)), api.OK)
			told(t, "less", must(set.Less(a, b)), api.OK, must(set.Meet(a, notB)), api.OK)
			told(t, "the union, the other way round", must(set.Union(b, a)), api.OK, must(set.Union(a, b)), api.OK)
		}
	}
}

// calls that make a set, of two that are handed in.
func calls() map[string]func(a, b []api.Range) ([]api.Range, api.Errno) {
	return map[string]func(a, b []api.Range) ([]api.Range, api.Errno){
		"Make":  func(a, b []api.Range) ([]api.Range, api.Errno) { return set.Make(a) },
		"Union": set.Union,
		"Meet":  set.Meet,
		"Less":  set.Less,
		"Not":   func(a, b []api.Range) ([]api.Range, api.Errno) { return set.Not(a) },
		"Fold":  func(a, b []api.Range) ([]api.Range, api.Errno) { return set.Fold(a) },
	}
}

// P2, P3: what is handed in is only read, its spare room too; what comes out is new, and the same each time.
func TestMemory(t *testing.T) {
	full := join(ranges(9, 12, 1, 3, 7, 8), rights()[8], ranges('a', 'k', 200, 200), ranges(5, 5, 6, 6))
	for name, call := range calls() {
		for _, c := range []struct{ a, b []api.Range }{
			{full[3:5], full[5:7]}, {full[5:7], full[3:5]}, {full[3:5], full[3:5]}, {full[3:5], full[:0]}, {full[:0], full[5:7]}, {full[:3], full[5:7]},
		} {
			keep := slices.Clone(full)
			first, err := call(c.a, c.b)
			want := slices.Clone(first)
			if !slices.Equal(full, keep) {
				t.Fatalf("%s changed what was handed in", name)
			}
			clear(first[:cap(first)])
			if !slices.Equal(full, keep) {
				t.Fatalf("%s answered what was handed in", name)
			}
			second, again := call(c.a, c.b)
			told(t, name+", again", second, again, want, err)
			for i := range full {
				full[i] = api.Range{From: 77, To: 77}
			}
			told(t, name+", later", second, again, want, err)
			copy(full, keep)
		}
	}
	keep := slices.Clone(full)
	set.Check(full[:3])
	set.Has(full[3:5], 5)
	set.Count(full[3:5])
	if !slices.Equal(full, keep) {
		t.Error("a call that asks changed what was handed in")
	}
}
