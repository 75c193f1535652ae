package split_test

import (
	"slices"
	"strings"
	"testing"
	"unicode/utf16"
	"unicode/utf8"

	"thicket/api"
	"thicket/encode"
	"thicket/fold"
	"thicket/split"
)

var encodings = []int{api.EncUTF8, api.EncUTF16LE, api.EncUTF16BE, api.EncLatin1}

var noEncodings = []int{-1 << 63, -1, 0, 5, 6, 1 << 32, 1<<32 + 1, 1<<63 - 1}

func ranges(ends ...int) []api.Range {
	var l []api.Range
	for i := 0; i < len(ends); i += 2 {
		l = append(l, api.Range{From: ends[i], To: ends[i+1]})
	}
	return l
}

// row of n ranges, of long points each, from a point on, by points each further.
func row(n, from, long, by int) []api.Range {
	var l []api.Range
	for i := range n {
		l = append(l, api.Range{From: from + i*by, To: from + i*by + long - 1})
	}
	return l
}

// sets whose ends lie at, and beside, all edges of the encodings.
func sets() [][]api.Range {
	list := [][]api.Range{
		nil,
		ranges(0, api.MaxPoint),
		ranges('A', 'B', 233, 233),
		ranges(0xd800, 0xdfff),
		ranges(0xd7ff, 0xe000),
		ranges(0xd700, 0xe0ff),
		ranges(0xdbff, 0xdc00, 0xdfff, 0xdfff),
		ranges(0, 0xd7ff, 0xe000, api.MaxPoint),
		ranges(0x7f, 0x80, 0x7ff, 0x800, 0xffff, 0x10000),
		ranges(0x20ac, 0x20ac, 0x1f600, 0x1f64f),
		ranges(1, api.MaxPoint-1),
		ranges(0x1234, 0x98765),
		ranges(0x81, 0x10fffe),
		ranges(256, api.MaxPoint),
		ranges(200, 300),
		row(400, 0, 1, 2),
		row(400, 1, 1, 2),
		row(400, 0x70, 700, 2777),
		row(400, 0xffff, 1023, 1999),
	}
	for _, name := range []string{"alpha", "upper", "space", "graph"} {
		l, _ := fold.Class(name)
		list = append(list, l)
	}
	edges := []int{0, 0x3f, 0x7f, 0xff, 0x7ff, 0xfff, 0x1fff, 0xd7ff, 0xdfff, 0xffff, 0x103ff, 0x3ffff, 0x10fbff, api.MaxPoint - 1}
	for _, from := range edges {
		for _, to := range edges {
			for d := range 4 {
				if r := (api.Range{From: from + d&1, To: to + d>>1}); r.From <= r.To {
					list = append(list, []api.Range{r})
				}
			}
		}
	}
	return list
}

// bytesOf a point, by the library; empty, if the encoding does not write it.
func bytesOf(enc, p int) []byte {
	if enc == api.EncLatin1 {
		if p > 255 {
			return nil
		}
		return []byte{byte(p)}
	}
	if p >= 0xd800 && p <= 0xdfff {
		return nil
	}
	if enc == api.EncUTF8 {
		return utf8.AppendRune(nil, rune(p))
	}
	var b []byte
	for _, u := range utf16.Encode([]rune{rune(p)}) {
		if enc == api.EncUTF16LE {
			b = append(b, byte(u), byte(u>>8))
		} else {
			b = append(b, byte(u>>8), byte(u))
		}
	}
	return b
}

func fits(road []api.Range, b []byte) bool {
	if len(road) != len(b) {
		return false
	}
	for i, r := range road {
		if int(b[i]) < r.From || int(b[i]) > r.To {
			return false
		}
	}
	return true
}

// rows of bytes that go along a road.
func rows(road []api.Range) int {
	n := 1
	for _, r := range road {
		n *= r.To - r.From + 1
	}
	return n
}

// D1: each scalar's bytes go along one road alone; and as there are no more rows than scalars, no others do.
func TestRoads(t *testing.T) {
	for _, enc := range encodings {
		all := make([][]byte, api.MaxPoint+1)
		for p := range all {
			all[p] = bytesOf(enc, p)
		}
		for i, a := range sets() {
			roads, err := split.Roads(enc, a)
			if err != api.OK {
				t.Fatalf("Roads %d of %d: error %d", enc, i, err)
			}
			total := wellFormed(t, enc, roads)
			// By their first bytes, so that not all roads are asked for each point.
			var first [256][]int
			for k, road := range roads {
				for b := road[0].From; b <= road[0].To; b++ {
					first[b] = append(first[b], k)
				}
			}
			scalars := 0
			for _, r := range a {
				for p := r.From; p <= r.To; p++ {
					if len(all[p]) == 0 {
						continue
					}
					scalars++
					n := 0
					for _, k := range first[all[p][0]] {
						if fits(roads[k], all[p]) {
							n++
						}
					}
					if n != 1 {
						t.Fatalf("Roads %d of %d: the bytes % x of %d go along %d", enc, i, all[p], p, n)
					}
				}
			}
			if total != scalars {
				t.Errorf("Roads %d of %d: %d rows of bytes, %d scalars", enc, i, total, scalars)
			}
		}
	}
}

// wellFormed asks that ranges are of bytes, and roads rise; it answers how many rows they have.
func wellFormed(t *testing.T, enc int, roads [][]api.Range) int {
	t.Helper()
	total := 0
	for k, road := range roads {
		if len(road) < 1 || len(road) > 4 {
			t.Fatalf("Roads %d: a road of %d ranges", enc, len(road))
		}
		for _, r := range road {
			if r.From < 0 || r.To > 255 || r.From > r.To {
				t.Fatalf("Roads %d: a range from %d to %d", enc, r.From, r.To)
			}
		}
		total += rows(road)
		if k > 0 && slices.Compare(froms(roads[k-1]), froms(road)) >= 0 {
			t.Fatalf("Roads %d: %v ahead of %v", enc, roads[k-1], road)
		}
	}
	return total
}

func froms(road []api.Range) []int {
	var l []int
	for _, r := range road {
		l = append(l, r.From)
	}
	return l
}

// D1: roads that are known, and as few as these.
func TestRoadsKnown(t *testing.T) {
	for _, c := range []struct {
		enc  int
		a    []api.Range
		want [][]api.Range
	}{
		{api.EncUTF8, ranges('A', 'B', 233, 233), [][]api.Range{ranges('A', 'B'), ranges(0xc3, 0xc3, 0xa9, 0xa9)}},
		{api.EncUTF16BE, ranges('A', 'B', 233, 233), [][]api.Range{ranges(0, 0, 'A', 'B'), ranges(0, 0, 233, 233)}},
		{api.EncUTF16LE, ranges('A', 'B', 233, 233), [][]api.Range{ranges('A', 'B', 0, 0), ranges(233, 233, 0, 0)}},
		{api.EncLatin1, ranges('A', 'B', 233, 300), [][]api.Range{ranges('A', 'B'), ranges(233, 255)}},
		{api.EncUTF16LE, ranges(0x1f600, 0x1f64f), [][]api.Range{ranges(0x3d, 0x3d, 0xd8, 0xd8, 0, 0x4f, 0xde, 0xde)}},
		{api.EncUTF16LE, ranges(0x105, 0x105, 0x201, 0x201), [][]api.Range{ranges(1, 1, 2, 2), ranges(5, 5, 1, 1)}},
		{api.EncUTF8, ranges(0, api.MaxPoint), [][]api.Range{
			ranges(0, 0x7f),
			ranges(0xc2, 0xdf, 0x80, 0xbf),
			ranges(0xe0, 0xe0, 0xa0, 0xbf, 0x80, 0xbf),
			ranges(0xe1, 0xec, 0x80, 0xbf, 0x80, 0xbf),
			ranges(0xed, 0xed, 0x80, 0x9f, 0x80, 0xbf),
			ranges(0xee, 0xef, 0x80, 0xbf, 0x80, 0xbf),
			ranges(0xf0, 0xf0, 0x90, 0xbf, 0x80, 0xbf, 0x80, 0xbf),
			ranges(0xf1, 0xf3, 0x80, 0xbf, 0x80, 0xbf, 0x80, 0xbf),
			ranges(0xf4, 0xf4, 0x80, 0x8f, 0x80, 0xbf, 0x80, 0xbf),
		}},
	} {
		roads, err := split.Roads(c.enc, c.a)
		if !slices.EqualFunc(roads, c.want, slices.Equal[[]api.Range]) || err != api.OK {
			t.Errorf("Roads %d of %v: %v %d, must be %v", c.enc, c.a, roads, err, c.want)
		}
	}
	for _, enc := range encodings {
		for _, a := range [][]api.Range{nil, {}, ranges(0xd800, 0xdfff)} {
			if roads, err := split.Roads(enc, a); len(roads) != 0 || err != api.OK {
				t.Errorf("Roads %d of %v: %v %d", enc, a, roads, err)
			}
		}
	}
	if roads, err := split.Roads(api.EncLatin1, ranges(256, api.MaxPoint)); len(roads) != 0 || err != api.OK {
		t.Errorf("Roads of nothing that is written: %v %d", roads, err)
	}
}

// D1: ErrKind first, then what Check says.
func TestRoadsWrong(t *testing.T) {
	for _, c := range []struct {
		a   []api.Range
		err api.Errno
	}{
		{nil, api.OK},
		{row(400, 0, 1, 2), api.OK},
		{row(401, 0, 1, 2), api.ErrMany},
		{append(row(401, 0, 1, 2), api.Range{From: -1}), api.ErrMany},
		{ranges(5, 4), api.ErrRange},
		{ranges(-1, 4), api.ErrRange},
		{ranges(4, api.MaxPoint+1), api.ErrRange},
		{ranges(1, 3, 4, 5, 9, 8), api.ErrRange},
		{ranges(1, 3, 4, 5), api.ErrState},
		{ranges(300, 300, 300, 300), api.ErrState},
		{ranges(0xd801, 0xd801, 0xd800, 0xd800), api.ErrState},
	} {
		for _, enc := range encodings {
			roads, err := split.Roads(enc, c.a)
			if err != c.err || err != api.OK && len(roads) != 0 {
				t.Errorf("Roads %d of %v: %v %d, must be %d", enc, c.a, roads, err, c.err)
			}
		}
		for _, enc := range noEncodings {
			if roads, err := split.Roads(enc, c.a); err != api.ErrKind || len(roads) != 0 {
				t.Errorf("Roads %d of %v: %v %d, must be ErrKind", enc, c.a, roads, err)
			}
		}
	}
}

// D2: the first road that fits, whichever the encoding.
func TestAlong(t *testing.T) {
	a, ab, abcd := ranges('a', 'a'), ranges('a', 'a', 'b', 'b'), ranges('a', 'a', 'b', 'b', 'c', 'c', 'd', 'd')
	all := ranges(0, 255, 0, 255)
	for _, c := range []struct {
		roads [][]api.Range
		s     string
		at    int
		want  int
	}{
		{nil, "", 0, 0},
		{nil, "abc", 1, 0},
		{[][]api.Range{}, "abc", 3, 0},
		{[][]api.Range{a}, "abc", 0, 1},
		{[][]api.Range{a}, "abc", 1, 0},
		{[][]api.Range{a}, "abc", 3, 0},
		{[][]api.Range{a}, "", 0, 0},
		{[][]api.Range{a, ab}, "abc", 0, 1},
		{[][]api.Range{ab, a}, "abc", 0, 2},
		{[][]api.Range{ab, a}, "acb", 0, 1},
		{[][]api.Range{ab, a}, "a", 0, 1},
		{[][]api.Range{ab, a}, "xab", 1, 2},
		{[][]api.Range{abcd, ab}, "abcd", 0, 4},
		{[][]api.Range{abcd, ab}, "abc", 0, 2},
		{[][]api.Range{abcd, ab}, "abcx", 0, 2},
		{[][]api.Range{abcd}, "abcde", 0, 4},
		{[][]api.Range{abcd}, "abcde", 1, 0},
		{[][]api.Range{all}, "\x00\xff", 0, 2},
		{[][]api.Range{all}, "\x00\xff", 1, 0},
		{[][]api.Range{ranges('b', 'd')}, "a", 0, 0},
		{[][]api.Range{ranges('b', 'd')}, "b", 0, 1},
		{[][]api.Range{ranges('b', 'd')}, "d", 0, 1},
		{[][]api.Range{ranges('b', 'd')}, "e", 0, 0},
		{[][]api.Range{ranges(0, 0)}, "\x00", 0, 1},
		{[][]api.Range{ranges(255, 255)}, "\xff", 0, 1},
		{[][]api.Range{ranges('x', 'x'), ab, ab}, strings.Repeat("b", 5000) + "ab", 5000, 2},
	} {
		for _, enc := range encodings {
			if n, err := split.Along(enc, c.roads, c.s, c.at); n != c.want || err != api.OK {
				t.Errorf("Along %v of %q at %d: %d %d, must be %d", c.roads, c.s, c.at, n, err, c.want)
			}
		}
	}
}

// D2: ErrKind, ErrForm, ErrRange, in this order.
func TestAlongWrong(t *testing.T) {
	good := ranges('a', 'a')
	bad := [][]api.Range{
		nil, {}, row(5, 0, 1, 1), row(6, 0, 1, 1), ranges(1, 0), ranges(0, 256), ranges(-1, 3), ranges(256, 256), ranges(-2, -1),
		ranges('a', 'a', 2, 1), ranges(0, 1, 0, 1, 0, 1, 0, 256), ranges(-1<<63, 255), ranges(0, 1<<63-1), ranges(1<<32+1, 1<<32+2), ranges(300, 200), ranges(3, -1),
	}
	places := []int{-1 << 63, -1, 0, 1, 3, 4, 1<<63 - 1}
	for _, at := range places {
		for _, road := range bad {
			for _, roads := range [][][]api.Range{{road}, {good, road}, {road, good}, {good, road, good}} {
				along(t, api.EncUTF8, roads, at, api.ErrForm)
				along(t, api.EncLatin1, roads, at, api.ErrForm)
				along(t, 0, roads, at, api.ErrKind)
			}
		}
		for _, enc := range noEncodings {
			along(t, enc, nil, at, api.ErrKind)
			along(t, enc, [][]api.Range{good}, at, api.ErrKind)
		}
		if at < 0 || at > 3 {
			for _, enc := range encodings {
				along(t, enc, nil, at, api.ErrRange)
				along(t, enc, [][]api.Range{good}, at, api.ErrRange)
			}
		}
	}
}

// along "abc", where it is wrong.
func along(t *testing.T, enc int, roads [][]api.Range, at int, want api.Errno) {
	t.Helper()
	if n, err := split.Along(enc, roads, "abc", at); n != 0 || err != want {
		t.Errorf("Along %d, %v at %d: %d %d, must be %d", enc, roads, at, n, err, want)
	}
}

// D3: along the roads of a set goes just what Next tells, if that is in it.
func TestNext(t *testing.T) {
	// Bytes of which each row of four stands somewhere.
	edges := []byte{0x00, 0x41, 0x7f, 0x80, 0x8f, 0x90, 0x9f, 0xa0, 0xbf, 0xc0, 0xc1, 0xc2, 0xd7, 0xd8, 0xdb, 0xdc, 0xdf, 0xe0, 0xec, 0xed, 0xee, 0xef, 0xf0, 0xf1, 0xf4, 0xf5, 0xff}
	var texts []string
	for _, a := range edges {
		for _, b := range edges {
			for _, c := range edges {
				for _, d := range edges {
					texts = append(texts, string([]byte{a, b, c, d}))
				}
			}
			texts = append(texts, string([]byte{a, b}), string([]byte{a, b, 0x80}))
		}
		texts = append(texts, string([]byte{a}))
	}
	for _, a := range [][]api.Range{ranges(0, api.MaxPoint), ranges(0x41, 0x41, 0x80, 0xd7ff), ranges(0xd800, 0xffff), ranges(0x800, 0x10ffff), row(300, 0, 2, 173), row(400, 0x10000, 1000, 2001)} {
		in := make([]bool, api.MaxPoint+1)
		for _, r := range a {
			for p := r.From; p <= r.To; p++ {
				in[p] = true
			}
		}
		for _, enc := range encodings {
			roads, _ := split.Roads(enc, a)
			for i := 0; i < len(texts); i += 1 + len(roads)/8 {
				s := texts[i]
				want := 0
				if p, n, err := encode.Next(enc, s, 0); err == api.OK && in[p] {
					want = n
				}
				if n, err := split.Along(enc, roads, s, 0); n != want || err != api.OK {
					t.Fatalf("Along %d of % x: %d %d, must be %d", enc, s, n, err, want)
				}
				if n, err := split.Along(enc, roads, "?"+s, 1); n != want || err != api.OK {
					t.Fatalf("Along %d of % x behind a byte: %d %d, must be %d", enc, s, n, err, want)
				}
			}
		}
	}
}

// D3: and of each point.
func TestNextOfPoints(t *testing.T) {
	a := row(200, 0x20, 3000, 5000)
	in := make([]bool, api.MaxPoint+1)
	for _, r := range a {
		for p := r.From; p <= r.To; p++ {
			in[p] = true
		}
	}
	for _, enc := range encodings {
		roads, err := split.Roads(enc, a)
		if err != api.OK {
			t.Fatalf("Roads %d: %d", enc, err)
		}
		for p := 0; p <= api.MaxPoint; p += 37 {
			b := bytesOf(enc, p)
			want := 0
			if in[p] {
				want = len(b)
			}
			if len(b) == 0 {
				continue
			}
			if n, err := split.Along(enc, roads, string(b)+"xyz", 0); n != want || err != api.OK {
				t.Fatalf("Along %d of %d: %d %d, must be %d", enc, p, n, err, want)
			}
		}
	}
}

// P2, P3: what is handed in is only read; no two roads share memory, and each answer is new.
func TestMemory(t *testing.T) {
	for _, enc := range encodings {
		full := append(ranges(0x21, 0x45, 0x80, 0xfe, 0x900, 0x1fff0), ranges(7, 7, 9, 9)...)
		keep := slices.Clone(full)
		roads, err := split.Roads(enc, full[:3])
		want := clone(roads)
		if err != api.OK || len(roads) < 2 {
			t.Fatalf("Roads %d: %v %d", enc, roads, err)
		}
		for i, road := range roads {
			road = road[:cap(road)]
			for k := range road {
				road[k] = api.Range{From: -i, To: -i}
			}
		}
		for i, road := range roads {
			for _, r := range road {
				if r.From != -i || r.To != -i {
					t.Fatalf("Roads %d: two roads share memory", enc)
				}
			}
		}
		if !slices.Equal(full, keep) {
			t.Errorf("Roads %d changed what was handed in", enc)
		}
		again, err := split.Roads(enc, full[:3])
		if !slices.EqualFunc(again, want, slices.Equal[[]api.Range]) || err != api.OK {
			t.Errorf("Roads %d, again: %v %d", enc, again, err)
		}
		for i := range full {
			full[i] = api.Range{From: 1, To: 1}
		}
		if !slices.EqualFunc(again, want, slices.Equal[[]api.Range]) {
			t.Errorf("Roads %d, later: %v", enc, again)
		}
		split.Along(enc, again, "a", 0)
		if !slices.EqualFunc(again, want, slices.Equal[[]api.Range]) {
			t.Errorf("Along %d changed roads: %v", enc, again)
		}
	}
}

func clone(roads [][]api.Range) [][]api.Range {
	var out [][]api.Range
	for _, road := range roads {
		out = append(out, slices.Clone(road))
	}
	return out
}
