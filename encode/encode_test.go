package encode_test

import (
	"slices"
	"strings"
	"testing"

	"thicket/api"
	"thicket/encode"
)

var encodings = []int{api.EncUTF8, api.EncUTF16LE, api.EncUTF16BE, api.EncLatin1}

var noEncodings = []int{-1 << 63, -1, 0, 5, 6, 1<<63 - 1}

// spelt is the bytes of a point as the chapter tells them, told here once more ("": it has none).
func spelt(enc, p int) string {
	if enc == api.EncLatin1 {
		if p < 0 || p > 255 {
			return ""
		}
		return string([]byte{byte(p)})
	}
	if p < 0 || p > 0x10ffff || p >= 0xd800 && p <= 0xdfff {
		return ""
	}
	if enc == api.EncUTF8 {
		return spelt8(p)
	}
	units := []int{p}
	if p >= 0x10000 {
		units = []int{0xd800 + (p-0x10000)/1024, 0xdc00 + (p-0x10000)%1024}
	}
	var b []byte
	for _, u := range units {
		if enc == api.EncUTF16LE {
			b = append(b, byte(u%256), byte(u/256))
		} else {
			b = append(b, byte(u/256), byte(u%256))
		}
	}
	return string(b)
}

func spelt8(p int) string {
	tail := func(n int) byte { return byte(0x80 + p>>(6*n)&0x3f) }
	switch {
	case p < 0x80:
		return string([]byte{byte(p)})
	case p < 0x800:
		return string([]byte{byte(0xc0 + p>>6), tail(0)})
	case p < 0x10000:
		return string([]byte{byte(0xe0 + p>>12), tail(1), tail(0)})
	}
	return string([]byte{byte(0xf0 + p>>18), tail(2), tail(1), tail(0)})
}

// book has the bytes of every point of an encoding.
func book(enc int) map[string]int {
	m := map[string]int{}
	for p := 0; p <= api.MaxPoint; p++ {
		if s := spelt(enc, p); s != "" {
			m[s] = p
		}
	}
	return m
}

// A1: ordinary texts.
func TestDecode(t *testing.T) {
	for _, c := range []struct {
		enc    int
		text   string
		points []int
		starts []int
	}{
		{api.EncUTF8, "", nil, []int{0}},
		{api.EncUTF8, "aé€😀", []int{97, 233, 8364, 128512}, []int{0, 1, 3, 6, 10}},
		{api.EncUTF8, "\x00\ufffd\x7f", []int{0, 0xfffd, 127}, []int{0, 1, 4, 5}},
		{api.EncUTF16LE, "", nil, []int{0}},
		{api.EncUTF16LE, "\x3d\xd8\x00\xde\x41\x00", []int{128512, 65}, []int{0, 4, 6}},
		{api.EncUTF16BE, "", nil, []int{0}},
		{api.EncUTF16BE, "\xd8\x3d\xde\x00\x00\x41", []int{128512, 65}, []int{0, 4, 6}},
		{api.EncUTF16BE, "\xd7\xff\xe0\x00", []int{0xd7ff, 0xe000}, []int{0, 2, 4}},
		{api.EncLatin1, "", nil, []int{0}},
		{api.EncLatin1, "a\x00\x80\xff", []int{97, 0, 128, 255}, []int{0, 1, 2, 3, 4}},
	} {
		points, fault := encode.Decode(c.enc, c.text)
		if !slices.Equal(points, c.points) || fault != (api.Fault{}) {
			t.Errorf("Decode %d %q: %v %v", c.enc, c.text, points, fault)
		}
		starts, fault := encode.Starts(c.enc, c.text)
		if !slices.Equal(starts, c.starts) || fault != (api.Fault{}) {
			t.Errorf("Starts %d %q: %v %v", c.enc, c.text, starts, fault)
		}
	}
}

func refuses(t *testing.T, enc int, text string, want api.Fault) {
	t.Helper()
	if l, f := encode.Decode(enc, text); len(l) != 0 || f != want {
		t.Errorf("Decode %d %.20q: %v %v, must be %v", enc, text, l, f, want)
	}
	if l, f := encode.Starts(enc, text); len(l) != 0 || f != want {
		t.Errorf("Starts %d %.20q: %v %v, must be %v", enc, text, l, f, want)
	}
}

// A1: faults, and which of several is told.
func TestDecodeFaults(t *testing.T) {
	long := strings.Repeat("\xd8", api.MaxText+1)
	for _, enc := range noEncodings {
		refuses(t, enc, "", api.Fault{Err: api.ErrKind})
		refuses(t, enc, long, api.Fault{Err: api.ErrKind})
	}
	for _, enc := range encodings {
		refuses(t, enc, long, api.Fault{Err: api.ErrMany})
		refuses(t, enc, strings.Repeat("ab", api.MaxText), api.Fault{Err: api.ErrMany})
	}
	for _, c := range []struct {
		enc  int
		text string
		at   int
	}{
		{api.EncUTF8, "\x80", 0},
		{api.EncUTF8, "é\xbf", 2},
		{api.EncUTF8, "\xc0\x80", 0},
		{api.EncUTF8, "\xc1\xbf", 0},
		{api.EncUTF8, "a\xe0\x9f\xbf", 1},
		{api.EncUTF8, "a\xed\xa0\x80", 1},
		{api.EncUTF8, "a\xed\xbf\xbf", 1},
		{api.EncUTF8, "\xf0\x8f\xbf\xbf", 0},
		{api.EncUTF8, "ab\xf4\x90\x80\x80", 2},
		{api.EncUTF8, "\xf5\x80\x80\x80", 0},
		{api.EncUTF8, "\xf8\x88\x80\x80\x80", 0},
		{api.EncUTF8, "\xff", 0},
		{api.EncUTF8, "a\xc3", 1},
		{api.EncUTF8, "a\xe2\x82", 1},
		{api.EncUTF8, "a\xf0\x9f\x98", 1},
		{api.EncUTF8, "\xe2\x82a", 0},
		{api.EncUTF16LE, "a", 0},
		{api.EncUTF16LE, "a\x00b", 2},
		{api.EncUTF16LE, "a\x00\x00\xdc", 2},
		{api.EncUTF16LE, "a\x00\x00\xd8", 2},
		{api.EncUTF16LE, "\x00\xd8\x00", 0},
		{api.EncUTF16LE, "\x00\xd8\x41\x00", 0},
		{api.EncUTF16LE, "\x00\xd8\x00\xd8\x00\xdc", 0},
		{api.EncUTF16BE, "\x00a\x00", 2},
		{api.EncUTF16BE, "\x00a\xdf\xff", 2},
		{api.EncUTF16BE, "\xdb\xff", 0},
		{api.EncUTF16BE, "\xd8\x00\xe0\x00", 0},
		{api.EncUTF16BE, "\xdc\x00\xd8\x00", 0},
	} {
		refuses(t, c.enc, c.text, api.Fault{Err: api.ErrForm, At: c.at})
	}
}

// A1, A2: just MaxText bytes are not too many.
func TestLongest(t *testing.T) {
	for _, enc := range encodings {
		size := len(spelt(enc, 'a'))
		points := slices.Repeat([]int{'a'}, api.MaxText/size)
		text := strings.Repeat(spelt(enc, 'a'), api.MaxText/size)
		if s, err := encode.Encode(enc, points); s != text || err != api.OK {
			t.Errorf("Encode %d: %d bytes, %d", enc, len(s), err)
		}
		if l, f := encode.Decode(enc, text); !slices.Equal(l, points) || f.Err != api.OK {
			t.Errorf("Decode %d: %d points, %v", enc, len(l), f)
		}
		if l, f := encode.Starts(enc, text); len(l) != len(points)+1 || f.Err != api.OK {
			t.Errorf("Starts %d: %d of them, %v", enc, len(l), f)
		}
		if s, err := encode.Encode(enc, append(points, 'a')); s != "" || err != api.ErrMany {
			t.Errorf("Encode %d, one more: %d bytes, %d", enc, len(s), err)
		}
	}
	paired := slices.Repeat([]int{0x10000}, api.MaxText/4)
	for _, enc := range encodings[:3] {
		if s, err := encode.Encode(enc, paired); len(s) != api.MaxText || err != api.OK {
			t.Errorf("Encode %d: %d bytes, %d", enc, len(s), err)
		}
		if s, err := encode.Encode(enc, append(paired, 0)); s != "" || err != api.ErrMany {
			t.Errorf("Encode %d, one more: %d bytes, %d", enc, len(s), err)
		}
	}
}

// A2: ordinary points, wrong ones, and which of several errors is told.
func TestEncode(t *testing.T) {
	for _, enc := range encodings {
		for _, l := range [][]int{nil, {}, {65}, {0, 127, 128, 255}} {
			want := ""
			for _, p := range l {
				want += spelt(enc, p)
			}
			if s, err := encode.Encode(enc, l); s != want || err != api.OK {
				t.Errorf("Encode %d %v: %q %d", enc, l, s, err)
			}
		}
	}
	if s, err := encode.Encode(api.EncUTF16LE, []int{128512, 65}); s != "\x3d\xd8\x00\xde\x41\x00" || err != api.OK {
		t.Errorf("two points: %q %d", s, err)
	}
	many := make([]int, api.MaxText+1)
	for _, enc := range noEncodings {
		for _, l := range [][]int{nil, {65}, {-1}, many} {
			if s, err := encode.Encode(enc, l); s != "" || err != api.ErrKind {
				t.Errorf("Encode %d: %q %d", enc, s, err)
			}
		}
	}
	for _, enc := range encodings {
		wrong := []int{-1 << 63, -1, 0x110000, 1 << 32, 1<<32 + 65, 1<<63 - 1}
		if enc == api.EncLatin1 {
			wrong = append(wrong, 256, 0xd800)
		} else {
			wrong = append(wrong, 0xd800, 0xdbff, 0xdc00, 0xdfff)
		}
		for _, p := range wrong {
			for _, l := range [][]int{{p}, {65, p}, {p, 65}, append(slices.Clone(many), p)} {
				if s, err := encode.Encode(enc, l); s != "" || err != api.ErrRange {
					t.Errorf("Encode %d %d among %d: %q %d", enc, p, len(l), s, err)
				}
			}
		}
	}
}

// A3: where there is nothing to look at.
func TestNextBackErrors(t *testing.T) {
	places := []int{-1 << 63, -5, -1, 0, 1, 4, 5, 1<<63 - 1}
	for _, enc := range noEncodings {
		for _, at := range places {
			if p, n, err := encode.Next(enc, "a\x00\xff", at); p != 0 || n != 0 || err != api.ErrKind {
				t.Errorf("Next %d at %d: %d %d %d", enc, at, p, n, err)
			}
			if p, n, err := encode.Back(enc, "a\x00\xff", at); p != 0 || n != 0 || err != api.ErrKind {
				t.Errorf("Back %d at %d: %d %d %d", enc, at, p, n, err)
			}
		}
	}
	for _, enc := range encodings {
		for _, text := range []string{"", "\x00\x61\x00\xdc"} {
			for _, at := range places {
				if p, n, err := encode.Next(enc, text, at); (at < 0 || at >= len(text)) && (p != 0 || n != 0 || err != api.ErrRange) {
					t.Errorf("Next %d %q at %d: %d %d %d", enc, text, at, p, n, err)
				}
				if p, n, err := encode.Back(enc, text, at); (at < 1 || at > len(text)) && (p != 0 || n != 0 || err != api.ErrRange) {
					t.Errorf("Back %d %q at %d: %d %d %d", enc, text, at, p, n, err)
				}
			}
		}
	}
}

// A3: a text of more than MaxText bytes is none of their errors, nor is a wrong one elsewhere.
func TestNextBackInLongText(t *testing.T) {
	text := strings.Repeat("\xff", 3*api.MaxText) + "é" + "\xff"
	at := 3 * api.MaxText
	if p, n, err := encode.Next(api.EncUTF8, text, at); p != 233 || n != 2 || err != api.OK {
		t.Errorf("Next: %d %d %d", p, n, err)
	}
	if p, n, err := encode.Back(api.EncUTF8, text, at+2); p != 233 || n != 2 || err != api.OK {
		t.Errorf("Back: %d %d %d", p, n, err)
	}
}

// A2, A3, A4: every point there is, by itself and between others.
func TestEveryPoint(t *testing.T) {
	for _, enc := range encodings {
		a := spelt(enc, 'a')
		for p := -3; p <= api.MaxPoint+3; p++ {
			want := spelt(enc, p)
			s, err := encode.Encode(enc, []int{p})
			if s != want || (err == api.OK) != (want != "") {
				t.Fatalf("Encode %d %d: %q %d", enc, p, s, err)
			}
			if want == "" {
				continue
			}
			text, end := a+s+a, len(a)+len(s)
			if l, f := encode.Decode(enc, text); !slices.Equal(l, []int{'a', p, 'a'}) || f.Err != api.OK {
				t.Fatalf("Decode %d %q: %v %v", enc, text, l, f)
			}
			if l, f := encode.Starts(enc, text); !slices.Equal(l, []int{0, len(a), end, end + len(a)}) || f.Err != api.OK {
				t.Fatalf("Starts %d %q: %v %v", enc, text, l, f)
			}
			if q, n, err := encode.Next(enc, text, len(a)); q != p || n != len(s) || err != api.OK {
				t.Fatalf("Next %d %q: %d %d %d", enc, text, q, n, err)
			}
			if q, n, err := encode.Back(enc, text, end); q != p || n != len(s) || err != api.OK {
				t.Fatalf("Back %d %q: %d %d %d", enc, text, q, n, err)
			}
		}
	}
}

// A1, A3: rows of bytes at all the edges that encodings have, held against the book of all points.
func TestRowsOfBytes(t *testing.T) {
	edges := []byte("\x00\x41\x7f\x80\x8f\x90\x9f\xa0\xbf\xc0\xc1\xc2\xd7\xd8\xdb\xdc\xdf\xe0\xe1\xed\xef\xf0\xf1\xf4\xf5\xf8\xff")
	var rows []string
	last := []string{""}
	for range 3 {
		var longer []string
		for _, s := range last {
			for _, b := range edges {
				longer = append(longer, s+string([]byte{b}))
			}
		}
		rows, last = append(rows, longer...), longer
	}
	for _, s := range last {
		for _, b := range []byte("\x41\x80\xbf\xd8\xdc\xdf\xe0") {
			rows = append(rows, s+string([]byte{b}))
		}
	}
	for _, enc := range encodings {
		m := book(enc)
		for _, s := range rows {
			holdAgainst(t, m, enc, s)
		}
	}
}

func holdAgainst(t *testing.T, m map[string]int, enc int, s string) {
	t.Helper()
	ahead := func(at int) (int, int, api.Errno) {
		for n := 1; n <= 4 && at+n <= len(s); n++ {
			if p, ok := m[s[at:at+n]]; ok {
				return p, n, api.OK
			}
		}
		return 0, 0, api.ErrForm
	}
	back := func(at int) (int, int, api.Errno) {
		for n := 1; n <= 4 && n <= at; n++ {
			if p, ok := m[s[at-n:at]]; ok {
				return p, n, api.OK
			}
		}
		return 0, 0, api.ErrForm
	}
	for at := range len(s) {
		p, n, err := encode.Next(enc, s, at)
		if q, k, want := ahead(at); p != q || n != k || err != want {
			t.Fatalf("Next %d %q at %d: %d %d %d, must be %d %d %d", enc, s, at, p, n, err, q, k, want)
		}
		p, n, err = encode.Back(enc, s, at+1)
		if q, k, want := back(at + 1); p != q || n != k || err != want {
			t.Fatalf("Back %d %q at %d: %d %d %d, must be %d %d %d", enc, s, at+1, p, n, err, q, k, want)
		}
	}
	var points, starts []int
	var fault api.Fault
	for at := 0; at < len(s); {
		p, n, err := ahead(at)
		if err != api.OK {
			points, starts, fault = nil, nil, api.Fault{Err: err, At: at}
			break
		}
		points, starts = append(points, p), append(starts, at)
		at += n
	}
	if fault.Err == api.OK {
		starts = append(starts, len(s))
	}
	if l, f := encode.Decode(enc, s); !slices.Equal(l, points) || f != fault {
		t.Fatalf("Decode %d %q: %v %v, must be %v %v", enc, s, l, f, points, fault)
	}
	if l, f := encode.Starts(enc, s); !slices.Equal(l, starts) || f != fault {
		t.Fatalf("Starts %d %q: %v %v, must be %v %v", enc, s, l, f, starts, fault)
	}
}

// A4: who goes ahead by Next through a whole text comes back by Back.
func TestThereAndBack(t *testing.T) {
	points := []int{0, 0x41, 0x7f, 0x80, 0x7ff, 0x800, 0xd7ff, 0xe000, 0xfffd, 0xffff, 0x10000, 0x1f600, 0x10ffff, 10}
	for _, enc := range encodings {
		l := points
		if enc == api.EncLatin1 {
			l = []int{0, 65, 127, 128, 254, 255, 10}
		}
		s, err := encode.Encode(enc, l)
		if err != api.OK {
			t.Fatalf("Encode %d: %d", enc, err)
		}
		at := 0
		var ahead, back []int
		for at < len(s) {
			p, n, err := encode.Next(enc, s, at)
			if err != api.OK {
				t.Fatalf("Next %d at %d: %d", enc, at, err)
			}
			ahead = append(ahead, p)
			at += n
		}
		for at > 0 {
			p, n, err := encode.Back(enc, s, at)
			if err != api.OK {
				t.Fatalf("Back %d at %d: %d", enc, at, err)
			}
			back = append(back, p)
			at -= n
		}
		slices.Reverse(back)
		if !slices.Equal(ahead, l) || !slices.Equal(back, l) {
			t.Errorf("%d: %v there, %v back", enc, ahead, back)
		}
	}
}

// P2, P3: what is handed in stays as it is, its spare room too, and what comes out is the caller's.
func TestMemory(t *testing.T) {
	room := []int{65, 66, 67, 68}
	if s, err := encode.Encode(api.EncUTF8, room[:2]); s != "AB" || err != api.OK {
		t.Errorf("Encode: %q %d", s, err)
	}
	if !slices.Equal(room, []int{65, 66, 67, 68}) {
		t.Errorf("what was handed in was changed: %v", room)
	}
	for range 3 {
		points, _ := encode.Decode(api.EncUTF8, "aé")
		starts, _ := encode.Starts(api.EncUTF8, "aé")
		if !slices.Equal(points, []int{97, 233}) || !slices.Equal(starts, []int{0, 1, 3}) {
			t.Errorf("again: %v %v", points, starts)
		}
		clear(points[:cap(points)])
		clear(starts[:cap(starts)])
	}
}
