// Package encode: texts and points: see doc/01-encode.md.
package encode

import "thicket/api"

// Decode a text: its points.
func Decode(enc int, s string) ([]int, api.Fault) {
	var points []int
	fault := walk(enc, s, func(p, at int) { points = append(points, p) })
	if fault.Err != api.OK {
		return nil, fault
	}
	return points, api.Fault{}
}

// Starts of points: at which bytes they begin, and the number of bytes as the last one.
func Starts(enc int, s string) ([]int, api.Fault) {
	var starts []int
	fault := walk(enc, s, func(p, at int) { starts = append(starts, at) })
	if fault.Err != api.OK {
		return nil, fault
	}
	return append(starts, len(s)), api.Fault{}
}

// walk hands each point of a text, and the byte that it begins at, to take, up to where none stands.
func walk(enc int, s string, take func(p, at int)) api.Fault {
	e, ok := encodingOf(enc)
	if !ok {
		return api.Fault{Err: api.ErrKind}
	}
	if len(s) > api.MaxText {
		return api.Fault{Err: api.ErrMany}
	}
	for at := 0; at < len(s); {
		p, n := e.read(s, at)
		if n == 0 {
			return api.Fault{Err: api.ErrForm, At: at}
		}
		take(p, at)
		at += n
	}
	return api.Fault{}
}

// Encode points: their text.
func Encode(enc int, l []int) (string, api.Errno) {
	e, ok := encodingOf(enc)
	if !ok {
		return "", api.ErrKind
	}
	// All points are looked at ahead of writing: a wrong one is told even where it stands beyond MaxText bytes.
	size := 0
	for _, p := range l {
		if !e.holds(p) {
			return "", api.ErrRange
		}
		size += e.size(p)
	}
	if size > api.MaxText {
		return "", api.ErrMany
	}
	b := make([]byte, 0, size)
	for _, p := range l {
		b = e.write(b, p)
	}
	return string(b), api.OK
}

// Next point: the one that stands at a byte, and how many bytes it has.
func Next(enc int, s string, at int) (int, int, api.Errno) {
	e, ok := encodingOf(enc)
	if !ok {
		return 0, 0, api.ErrKind
	}
	if at < 0 || at >= len(s) {
		return 0, 0, api.ErrRange
	}
	p, n := e.read(s, at)
	if n == 0 {
		return 0, 0, api.ErrForm
	}
	return p, n, api.OK
}

// Back to the point ahead: the one whose bytes end just ahead of a byte, and how many it has.
func Back(enc int, s string, at int) (int, int, api.Errno) {
	e, ok := encodingOf(enc)
	if !ok {
		return 0, 0, api.ErrKind
	}
	if at < 1 || at > len(s) {
		return 0, 0, api.ErrRange
	}
	// In no encoding do the bytes of one point end with those of another: at most one length fits.
	for long := 1; long <= maxBytes && long <= at; long++ {
		if p, n := e.read(s, at-long); n == long {
			return p, n, api.OK
		}
	}
	return 0, 0, api.ErrForm
}
