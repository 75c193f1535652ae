package find

import (
	"thicket/api"
	"thicket/encode"
	"thicket/parse"
	"thicket/points"
)

// part of a template: what a group has (0: the whole match), or, where isText, a text.
type part struct {
	group  int
	text   string
	isText bool
}

// reader of a template, which is decoded already.
type reader struct {
	points.Cursor
	pattern api.Pattern
	with    string
	starts  []int
}

// readTemplate that can be decoded: its parts.
func readTemplate(p api.Pattern, enc int, with string) ([]part, api.Errno) {
	l, _ := encode.Decode(enc, with)
	starts, _ := encode.Starts(enc, with)
	r := &reader{Cursor: points.Cursor{Pattern: l}, pattern: p, with: with, starts: starts}
	var parts []part
	for !r.Ended() {
		next, err := r.part()
		if err != api.OK {
			return nil, err
		}
		parts = append(parts, next)
	}
	return parts, api.OK
}

func (r *reader) part() (part, api.Errno) {
	if !r.Skip('\\') || r.Is('\\') { // of two the second one is itself
		r.At++
		return part{text: r.with[r.starts[r.At-1]:r.starts[r.At]], isText: true}, api.OK
	}
	if r.Skip('k') {
		return r.byName()
	}
	return r.byDigit()
}

func (r *reader) byDigit() (part, api.Errno) {
	if r.Ended() || r.Pattern[r.At] < '0' || r.Pattern[r.At] > '9' {
		return part{}, api.ErrForm
	}
	group := r.Pattern[r.At] - '0'
	if group > r.pattern.Groups {
		return part{}, api.ErrNone
	}
	r.At++
	return part{group: group}, api.OK
}

func (r *reader) byName() (part, api.Errno) {
	begins := r.Skip('<')
	name := r.Name()
	if !begins || name == "" || !r.Skip('>') {
		return part{}, api.ErrForm
	}
	group, err := parse.Number(r.pattern, name)
	if err != api.OK {
		return part{}, err
	}
	return part{group: group}, api.OK
}
