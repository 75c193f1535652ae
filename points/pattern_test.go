package points_test

import (
	"strings"
	"testing"

	"thicket/api"
	"thicket/points"
)

func TestCheckPattern(t *testing.T) {
	full, many := make([]int, api.MaxPattern), make([]int, api.MaxPattern+1)
	for _, dialect := range []int{api.DialectRuby, api.DialectPosix, api.DialectEmacs} {
		for _, c := range []struct {
			l   []int
			err api.Errno
		}{
			{nil, api.OK}, {[]int{0, api.MaxPoint}, api.OK}, {full, api.OK},
			{many, api.ErrMany}, {append(many, -1), api.ErrMany},
			{[]int{-1}, api.ErrRange}, {[]int{0, api.MaxPoint + 1}, api.ErrRange}, {[]int{0, 1 << 32, 0}, api.ErrRange},
		} {
			if err := points.CheckPattern(dialect, c.l); err != c.err {
				t.Errorf("dialect %d, %d points: %d, must be %d", dialect, len(c.l), err, c.err)
			}
		}
	}
	for _, dialect := range []int{-1 << 63, -1, 0, 4, 1<<32 + 1, 1<<63 - 1} {
		for _, l := range [][]int{nil, many, {-1}} {
			if err := points.CheckPattern(dialect, l); err != api.ErrKind {
				t.Errorf("dialect %d: %d", dialect, err)
			}
		}
	}
}

func TestCursor(t *testing.T) {
	// What lies behind the pattern is not part of it.
	c := points.Cursor{Pattern: []int{1, 2, 3, 4}[:3]}
	if c.Ended() || !c.Is(1) || !c.Is(1, 2, 3) || c.Is(2) || c.Is(1, 3) || c.Is(1, 2, 3, 4) || c.At != 0 {
		t.Error("at the beginning")
	}
	if c.Skip(2) || c.Skip(1, 3) || c.At != 0 || !c.Skip(1, 2) || c.At != 2 {
		t.Error("going on")
	}
	if c.Ended() || !c.Is(3) || c.Is(3, 4) || !c.Skip(3) || !c.Ended() || c.Is(4) || c.Skip(4) || c.At != 3 {
		t.Error("at the end")
	}
}

func TestCursorName(t *testing.T) {
	for _, c := range []struct {
		pattern, name string
		at, next      int
	}{
		{"", "", 0, 0}, {"a", "a", 0, 1}, {"a", "", 1, 1}, {"<a9_>", "a9_", 1, 4}, {"9a", "", 0, 0}, {"_9-a", "_9", 0, 2}, {"aé", "a", 0, 1}, {"\u0161", "", 0, 0},
		{strings.Repeat("a", 20), strings.Repeat("a", 20), 0, 20}, {strings.Repeat("a", 21), strings.Repeat("a", 20), 0, 20},
	} {
		var l []int
		for _, p := range c.pattern {
			l = append(l, int(p))
		}
		r := points.Cursor{Pattern: l, At: c.at}
		if name := r.Name(); name != c.name || r.At != c.next {
			t.Errorf("%q from %d: %q, then at %d", c.pattern, c.at, name, r.At)
		}
	}
}
