package points_test

import (
	"strings"
	"testing"

	"thicket/points"
)

func TestNames(t *testing.T) {
	long := strings.Repeat("aZ_9", 5)
	for _, s := range []string{"a", "z", "A", "Z", "_", "a0", "a9", "_1", "__", "aZ_9", long} {
		if !points.IsName(s) {
			t.Errorf("%q is a name", s)
		}
	}
	for _, s := range []string{"", "0", "9", "1a", "a ", " a", "a-b", "é", "aé", "\u0161", "a\x00", "\x00", "\xff", "a\xff", "a/", "a:", "a@", "a[", "a`", "a{", long + "a"} {
		if points.IsName(s) {
			t.Errorf("%q is no name", s)
		}
	}
	for _, p := range []int{-1 << 63, -1, 0, '/', ':', '@', '[', '`', '{', 1<<32 + 'a', 1<<32 + '0'} {
		if points.MayNameHave(p, true) || points.MayNameHave(p, false) || points.IsLetter(p) {
			t.Errorf("%d is in no name", p)
		}
	}
	if points.MayNameHave('0', true) || !points.MayNameHave('0', false) || points.IsLetter('0') || points.IsLetter('_') || !points.IsLetter('q') || !points.IsLetter('Q') {
		t.Error("digits and letters")
	}
}
