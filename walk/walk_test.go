package walk_test

import (
	"fmt"
	"strings"
	"testing"

	"thicket/api"
	"thicket/walk"
)

func begun(t *testing.T, text string, at int) walk.Walker {
	t.Helper()
	w, err := walk.Begin(api.EncUTF8, text, at, 0)
	if err != api.OK {
		t.Fatalf("%q at %d: error %d", text, at, err)
	}
	return w
}

func TestBegin(t *testing.T) {
	for i, c := range []struct {
		enc      int
		text     string
		at, fuel int
		place    int
		err      api.Errno
	}{
		{api.EncUTF8, "", 0, 0, 0, api.OK},
		{api.EncUTF8, "éab", 2, api.MaxFuel, 1, api.OK},
		{api.EncUTF16BE, "\x00a\x00b", 4, 5, 2, api.OK},
		{0, "\xff", -1, -1, 0, api.ErrKind},
		{api.EncUTF8, strings.Repeat("a", api.MaxText+1), -1, -1, 0, api.ErrMany},
		{api.EncUTF8, "a\xff", -1, -1, 0, api.ErrForm},
		{api.EncUTF8, "éab", 1, 5, 0, api.ErrRange},
		{api.EncUTF8, "éab", -1, 5, 0, api.ErrRange},
		{api.EncUTF8, "éab", 5, 5, 0, api.ErrRange},
		{api.EncUTF8, "éab", 0, -1, 0, api.ErrRange},
		{api.EncUTF8, "éab", 0, api.MaxFuel + 1, 0, api.ErrRange},
	} {
		w, err := walk.Begin(c.enc, c.text, c.at, c.fuel)
		if err != c.err || w.At != c.place || err != api.OK && w.Points != nil {
			t.Errorf("%d: at %d, error %d", i, w.At, err)
		}
	}
}

func TestTake(t *testing.T) {
	w := begun(t, "éaaÉA", 0)
	e, a := []api.Range{{From: 'é', To: 'é'}}, []api.Range{{From: 'a', To: 'a'}}
	if w.Take(a) || w.Take(nil) || w.At != 0 || !w.Take(e) || !w.Take(a) || w.At != 2 {
		t.Fatalf("at %d", w.At)
	}
	if w.TakeAgain(walk.Nothing(), false) || w.TakeAgain(api.Range{From: 0, To: 1}, true) || w.At != 2 {
		t.Fatalf("at %d", w.At)
	}
	if !w.TakeAgain(api.Range{From: 1, To: 1}, false) || !w.TakeAgain(api.Range{From: 1, To: 2}, false) || w.At != 3 {
		t.Fatalf("at %d", w.At)
	}
	if w.TakeAgain(api.Range{From: 0, To: 2}, false) || w.TakeAgain(api.Range{From: 0, To: 3}, true) || !w.TakeAgain(api.Range{From: 0, To: 2}, true) || w.At != 5 {
		t.Fatalf("at %d", w.At)
	}
	if w.Take(a) || w.At != 5 || !w.Looks(api.NodeTextEnd) || w.Looks(api.NodeTextStart) {
		t.Errorf("at the end: %d", w.At)
	}
}

func TestLooks(t *testing.T) {
	w := begun(t, "a\nb ", 0)
	for place, want := range []string{"true false true false true false", "false true false false true false", "true false false false true false", "false false false false true false", "false true false true false true"} {
		w.BeginAt(place)
		var l []string
		for kind := api.NodeLineStart; kind <= api.NodeNoWord; kind++ {
			l = append(l, fmt.Sprint(w.Looks(kind)))
		}
		if s := strings.Join(l, " "); s != want {
			t.Errorf("at %d: %s, must be %s", place, s, want)
		}
	}
}

func TestMatch(t *testing.T) {
	w := begun(t, "éaé", 2)
	groups := walk.NoGroups(2)
	groups[1] = api.Range{From: 0, To: 3}
	w.At = 3
	if m := w.Match(groups); fmt.Sprint(m) != "{2 5 [{-1 -1} {0 5}]}" {
		t.Error(m)
	}
	w.BeginAt(3)
	w.At = 0
	if m := w.Match(nil); fmt.Sprint(m) != "{5 0 []}" {
		t.Error(m)
	}
}
