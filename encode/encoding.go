package encode

import (
	"unicode/utf8"

	"thicket/api"
)

// maxBytes is how many bytes a point has at most, in whichever encoding.
const maxBytes = 4

// The points that are no scalars, and where those end that begin a pair of units.
const (
	firstUpper = 0xd800
	firstLower = 0xdc00
	lastLower  = 0xdfff
)

// firstPaired is the first point that has two units.
const firstPaired = 0x10000

// encoding is all that the calls know of an encoding.
type encoding interface {
	// holds tells whether a number is a point that can be written.
	holds(p int) bool
	// size is how many bytes a point has that it holds.
	size(p int) int
	// write appends the bytes of a point that it holds.
	write(b []byte, p int) []byte
	// read is the point that stands at a byte of s, and how many bytes it has (0: none stands there).
	read(s string, at int) (int, int)
}

func encodingOf(enc int) (encoding, bool) {
	switch enc {
	case api.EncUTF8:
		return utf8Text{}, true
	case api.EncUTF16LE:
		return utf16Text{lower: 0, upper: 1}, true
	case api.EncUTF16BE:
		return utf16Text{lower: 1, upper: 0}, true
	case api.EncLatin1:
		return latin1Text{}, true
	}
	return nil, false
}

func isScalar(p int) bool {
	return p >= 0 && p <= api.MaxPoint && (p < firstUpper || p > lastLower)
}

type utf8Text struct{}

func (utf8Text) holds(p int) bool { return isScalar(p) }

func (utf8Text) size(p int) int { return utf8.RuneLen(rune(p)) }

func (utf8Text) write(b []byte, p int) []byte { return utf8.AppendRune(b, rune(p)) }

func (utf8Text) read(s string, at int) (int, int) {
	r, n := utf8.DecodeRuneInString(s[at:])
	// RuneError is a scalar too: only by its length is it told from nothing that stands there.
	if r == utf8.RuneError && n <= 1 {
		return 0, 0
	}
	return int(r), n
}

// utf16Text: which of the two bytes of a unit is the lower one, and which the upper one.
type utf16Text struct{ lower, upper int }

func (utf16Text) holds(p int) bool { return isScalar(p) }

func (utf16Text) size(p int) int {
	if p < firstPaired {
		return 2
	}
	return 4
}

func (e utf16Text) write(b []byte, p int) []byte {
	if p < firstPaired {
		return e.writeUnit(b, p)
	}
	p -= firstPaired
	b = e.writeUnit(b, firstUpper+(p>>10))
	return e.writeUnit(b, firstLower+(p&0x3ff))
}

func (e utf16Text) writeUnit(b []byte, unit int) []byte {
	var two [2]byte
	two[e.lower] = byte(unit)
	two[e.upper] = byte(unit >> 8)
	return append(b, two[0], two[1])
}

func (e utf16Text) read(s string, at int) (int, int) {
	first, ok := e.readUnit(s, at)
	if !ok {
		return 0, 0
	}
	if isScalar(first) {
		return first, 2
	}
	second, ok := e.readUnit(s, at+2)
	if !ok || first >= firstLower || second < firstLower || second > lastLower {
		return 0, 0
	}
	return firstPaired + ((first - firstUpper) << 10) + (second - firstLower), 4
}

func (e utf16Text) readUnit(s string, at int) (int, bool) {
	if at+2 > len(s) {
		return 0, false
	}
	return int(s[at+e.lower]) + (int(s[at+e.upper]) << 8), true
}

type latin1Text struct{}

func (latin1Text) holds(p int) bool { return p >= 0 && p <= 255 }

func (latin1Text) size(p int) int { return 1 }

func (latin1Text) write(b []byte, p int) []byte { return append(b, byte(p)) }

func (latin1Text) read(s string, at int) (int, int) { return int(s[at]), 1 }
