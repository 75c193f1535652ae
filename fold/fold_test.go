package fold_test

import (
	"slices"
	"testing"

	"thicket/api"
	"thicket/fold"
)

// noPoints are numbers beside the points.
var noPoints = []int{-1 << 63, -32, -1, api.MaxPoint + 1, 1 << 32, 1<<32 + 65, 1<<63 - 1}

// orbits of all points that are not alone, worked out from the chapter's pairs by giving both of a pair the lesser mark until nothing changes.
func orbits() map[int][]int {
	var pairs [][2]int
	row := func(from, to, step, shift int) {
		for x := from; x <= to; x += step {
			pairs = append(pairs, [2]int{x, x + shift})
		}
	}
	row(65, 90, 1, 32)
	row(192, 214, 1, 32)
	row(216, 222, 1, 32)
	row(256, 302, 2, 1)
	row(913, 929, 1, 32)
	row(931, 939, 1, 32)
	row(1024, 1039, 1, 80)
	row(1040, 1071, 1, 32)
	pairs = append(pairs, [2]int{962, 963}, [2]int{181, 956}, [2]int{8490, 107}, [2]int{8491, 229}, [2]int{7838, 223})
	mark := map[int]int{}
	for _, p := range pairs {
		mark[p[0]], mark[p[1]] = p[0], p[1]
	}
	for changed := true; changed; {
		changed = false
		for _, p := range pairs {
			if least := min(mark[p[0]], mark[p[1]]); mark[p[0]] != least || mark[p[1]] != least {
				mark[p[0]], mark[p[1]] = least, least
				changed = true
			}
		}
	}
	out := map[int][]int{}
	for p, m := range mark {
		for q, n := range mark {
			if m == n {
				out[p] = append(out[p], q)
			}
		}
		slices.Sort(out[p])
	}
	return out
}

// B1: orbits that the chapter names, and its edges.
func TestOrbit(t *testing.T) {
	for _, l := range [][]int{
		{65, 97}, {75, 107, 8490}, {90, 122}, {64}, {91}, {96}, {123},
		{181, 924, 956}, {192, 224}, {197, 229, 8491}, {214, 246}, {215}, {247}, {216, 248}, {222, 254}, {223, 7838}, {255},
		{256, 257}, {258, 259}, {302, 303}, {304}, {305},
		{912}, {913, 945}, {929, 961}, {930}, {931, 962, 963}, {932, 964}, {939, 971}, {940}, {972},
		{1023}, {1024, 1104}, {1039, 1119}, {1040, 1072}, {1071, 1103}, {1120},
		{0}, {48}, {8489}, {8492}, {7837}, {7839}, {0xd800}, {api.MaxPoint},
	} {
		for _, p := range l {
			if o, err := fold.Orbit(p); !slices.Equal(o, l) || err != api.OK {
				t.Errorf("Orbit %d: %v %d, must be %v", p, o, err, l)
			}
			if q, err := fold.Least(p); q != l[0] || err != api.OK {
				t.Errorf("Least %d: %d %d, must be %d", p, q, err, l[0])
			}
		}
	}
}

// B1, B3: each point is in just the orbit that the pairs make.
func TestEveryOrbit(t *testing.T) {
	want := orbits()
	for p := 0; p <= api.MaxPoint; p++ {
		l := want[p]
		if l == nil {
			l = []int{p}
		}
		o, err := fold.Orbit(p)
		if !slices.Equal(o, l) || err != api.OK {
			t.Fatalf("Orbit %d: %v %d, must be %v", p, o, err, l)
		}
		if q, err := fold.Least(p); q != l[0] || err != api.OK {
			t.Fatalf("Least %d: %d %d, must be %d", p, q, err, l[0])
		}
	}
}

func TestNoPoints(t *testing.T) {
	for _, p := range noPoints {
		if l, err := fold.Orbit(p); len(l) != 0 || err != api.ErrRange {
			t.Errorf("Orbit %d: %v %d", p, l, err)
		}
		if q, err := fold.Least(p); q != 0 || err != api.ErrRange {
			t.Errorf("Least %d: %d %d", p, q, err)
		}
	}
}

func everySecond(l []api.Range, from, to int) []api.Range {
	for p := from; p <= to; p += 2 {
		l = append(l, api.Range{From: p, To: p})
	}
	return l
}

func ranges(ends ...int) []api.Range {
	var l []api.Range
	for i := 0; i < len(ends); i += 2 {
		l = append(l, api.Range{From: ends[i], To: ends[i+1]})
	}
	return l
}

// classes as the chapter has them, those of others joined by hand.
func classes() map[string][]api.Range {
	return map[string][]api.Range{
		"any":    ranges(0, 1114111),
		"ascii":  ranges(0, 127),
		"cntrl":  ranges(0, 31, 127, 159),
		"digit":  ranges(48, 57, 1632, 1641),
		"xdigit": ranges(48, 57, 65, 70, 97, 102),
		"blank":  ranges(9, 9, 32, 32),
		"space":  ranges(9, 13, 32, 32, 133, 133, 160, 160, 8192, 8202, 8232, 8233, 12288, 12288),
		"punct":  ranges(33, 47, 58, 64, 91, 96, 123, 126, 161, 169, 171, 180, 182, 185, 187, 191, 215, 215, 247, 247),
		"alpha":  ranges(65, 90, 97, 122, 170, 170, 181, 181, 186, 186, 192, 214, 216, 246, 248, 591, 913, 929, 931, 974, 1024, 1153, 7838, 7838, 8490, 8491),
		"upper":  append(everySecond(ranges(65, 90, 192, 214, 216, 222), 256, 302), ranges(913, 929, 931, 939, 1024, 1071, 7838, 7838, 8490, 8491)...),
		"lower":  append(everySecond(ranges(97, 122, 181, 181, 223, 246, 248, 255), 257, 303), ranges(945, 971, 1072, 1119)...),
		"alnum":  ranges(48, 57, 65, 90, 97, 122, 170, 170, 181, 181, 186, 186, 192, 214, 216, 246, 248, 591, 913, 929, 931, 974, 1024, 1153, 1632, 1641, 7838, 7838, 8490, 8491),
		"word":   ranges(48, 57, 65, 90, 95, 95, 97, 122, 170, 170, 181, 181, 186, 186, 192, 214, 216, 246, 248, 591, 913, 929, 931, 974, 1024, 1153, 1632, 1641, 7838, 7838, 8490, 8491),
		"graph":  ranges(33, 126, 161, 591, 913, 929, 931, 974, 1024, 1153, 1632, 1641, 7838, 7838, 8490, 8491),
	}
}

// B2: each class, as a set: rising, with gaps.
func TestClass(t *testing.T) {
	for name, want := range classes() {
		if l, err := fold.Class(name); !slices.Equal(l, want) || err != api.OK {
			t.Errorf("Class %s: %v %d, must be %v", name, l, err, want)
		}
	}
}

// B2: In tells of each point what the class's ranges tell.
func TestIn(t *testing.T) {
	for name, want := range classes() {
		next := 0
		for p := 0; p <= api.MaxPoint; p++ {
			for next < len(want) && want[next].To < p {
				next++
			}
			has := next < len(want) && want[next].From <= p
			if in, err := fold.In(name, p); in != has || err != api.OK {
				t.Fatalf("In %s %d: %v %d, must be %v", name, p, in, err, has)
			}
		}
		for _, p := range noPoints {
			if in, err := fold.In(name, p); in || err != api.ErrRange {
				t.Errorf("In %s %d: %v %d", name, p, in, err)
			}
		}
	}
}

// B2: a name that is none, told ahead of a number that is no point.
func TestNoClass(t *testing.T) {
	for _, name := range []string{"", "Alpha", "ALPHA", "alpha ", " alpha", "alph", "alphas", "print", "none", "alpha\x00", "\xff"} {
		if l, err := fold.Class(name); len(l) != 0 || err != api.ErrNone {
			t.Errorf("Class %q: %v %d", name, l, err)
		}
		for _, p := range append([]int{0, 65}, noPoints...) {
			if in, err := fold.In(name, p); in || err != api.ErrNone {
				t.Errorf("In %q %d: %v %d", name, p, in, err)
			}
		}
	}
}

// B3: orbits lie in alpha whole or not at all; upper and lower lie in alpha.
func TestLetters(t *testing.T) {
	in := func(name string, p int) bool {
		ok, err := fold.In(name, p)
		if err != api.OK {
			t.Fatalf("In %s %d: %d", name, p, err)
		}
		return ok
	}
	for p := 0; p <= api.MaxPoint; p++ {
		alpha := in("alpha", p)
		if !alpha && (in("upper", p) || in("lower", p)) {
			t.Errorf("%d is great or small, and no letter", p)
		}
		l, _ := fold.Orbit(p)
		if !slices.Contains(l, p) {
			t.Errorf("%d is not in its own orbit", p)
		}
		for _, q := range l {
			if in("alpha", q) != alpha {
				t.Errorf("of %d and %d, in one orbit, one is a letter", p, q)
			}
			if o, _ := fold.Orbit(q); !slices.Equal(o, l) {
				t.Errorf("%d has the orbit %v, and %d in it %v", p, l, q, o)
			}
		}
	}
}

// P2, P3: what comes out is the caller's, and a change of it is not seen by a later call.
func TestMemory(t *testing.T) {
	for name, want := range classes() {
		for range 2 {
			l, err := fold.Class(name)
			if !slices.Equal(l, want) || err != api.OK {
				t.Errorf("Class %s, again: %v %d", name, l, err)
			}
			clear(l[:cap(l)])
		}
	}
	for range 2 {
		l, err := fold.Orbit('k')
		if !slices.Equal(l, []int{75, 107, 8490}) || err != api.OK {
			t.Errorf("Orbit, again: %v %d", l, err)
		}
		clear(l[:cap(l)])
	}
}
