package seek_test

import (
	"fmt"
	"testing"

	"thicket/api"
	"thicket/encode"
	"thicket/match"
	"thicket/parse"
	"thicket/seek"
	"thicket/walk"
)

func pts(s string) []int {
	points, _ := encode.Decode(api.EncUTF8, s)
	return points
}

// One matcher at all places, again and again, with enough fuel and too little, answers as one that is new each time.
func TestMatchAt(t *testing.T) {
	const text = "abéaab-Ab"
	starts, _ := encode.Starts(api.EncUTF8, text)
	for _, s := range []string{"", "a", "(a)|(b)", "(a*)*b", "((a)|b)*+", `(?i:(a)b\1)|.`, "(?<=(a|ba))b", "(?<!(a))b", "(?=(a+))a", "(?!(a)b).", "(?>(a|ab))(?:)"} {
		p, fault := parse.Parse(api.DialectRuby, pts(s), false)
		w, err := walk.Begin(api.EncUTF8, text, 0, 0)
		if fault.Err != api.OK || err != api.OK {
			t.Fatal(s, fault, err)
		}
		m := seek.New(p, w)
		for _, fuel := range []int{100, 3, 0, 100, 5} {
			for place := range starts {
				place = (place * 7) % len(starts)
				got, ok, burnt, err := m.MatchAt(place, fuel)
				end := m.At
				want, wantOK, wantBurnt, wantErr := match.At(p, api.EncUTF8, text, starts[place], fuel)
				if fmt.Sprint(got, ok, burnt, err) != fmt.Sprint(want, wantOK, wantBurnt, wantErr) || ok && starts[end] != got.To {
					t.Errorf("%q at %d, fuel %d: %v %v %d %d, must be %v %v %d %d", s, place, fuel, got, ok, burnt, err, want, wantOK, wantBurnt, wantErr)
				}
				clear(got.Groups)
			}
		}
	}
}
