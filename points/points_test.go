package points_test

import (
	"slices"
	"testing"

	"thicket/api"
	"thicket/points"
)

func ranges(ends ...int) []api.Range {
	var l []api.Range
	for i := 0; i < len(ends); i += 2 {
		l = append(l, api.Range{From: ends[i], To: ends[i+1]})
	}
	return l
}

func TestIs(t *testing.T) {
	for _, p := range []int{0, 1, 0xd800, 0xffff, api.MaxPoint} {
		if !points.Is(p) {
			t.Errorf("%d is a point", p)
		}
	}
	for _, p := range []int{-1 << 63, -1, api.MaxPoint + 1, 1 << 32, 1<<63 - 1} {
		if points.Is(p) {
			t.Errorf("%d is no point", p)
		}
	}
}

func TestJoin(t *testing.T) {
	for _, c := range [][2][]api.Range{
		{nil, nil},
		{ranges(3, 5), ranges(3, 5)},
		{ranges(1, 4, 5, 9), ranges(1, 9)},
		{ranges(1, 4, 6, 9), ranges(1, 4, 6, 9)},
		{ranges(6, 9, 1, 4), ranges(1, 4, 6, 9)},
		{ranges(1, 9, 3, 4, 12, 13), ranges(1, 9, 12, 13)},
		{ranges(3, 4, 3, 9, 3, 3), ranges(3, 9)},
		{ranges(7, 8, 1, 2, 5, 6, 3, 4), ranges(1, 8)},
	} {
		if l := points.Join(slices.Clone(c[0])); !slices.Equal(l, c[1]) {
			t.Errorf("%v joined: %v, must be %v", c[0], l, c[1])
		}
	}
}
