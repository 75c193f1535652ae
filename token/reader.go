package token

import (
	"thicket/api"
	"thicket/points"
)

const maxDigits = 3 // of a number

// reader of one token.
type reader struct {
	points.Cursor
	dialect int
}

// take the point that comes next.
func (r *reader) take() int {
	if r.Ended() {
		panic(api.ErrForm)
	}
	p := r.Pattern[r.At]
	r.At++
	return p
}

func (r *reader) must(p int) {
	if !r.Skip(p) {
		panic(api.ErrForm)
	}
}

// digits reads as many digits as come, up to most of them: their number, and how many there were.
func (r *reader) digits(base, most int) (number, count int) {
	for count < most && !r.Ended() && digit(r.Pattern[r.At]) < base {
		number = number*base + digit(r.Pattern[r.At])
		count++
		r.At++
	}
	return number, count
}

// hex reads a number of from least to most hexadecimal digits.
func (r *reader) hex(least, most int) int {
	number, count := r.digits(16, most)
	if count < least {
		panic(api.ErrForm)
	}
	return number
}

// name must stand there.
func (r *reader) name() string {
	text := r.Name()
	if text == "" {
		panic(api.ErrForm)
	}
	return text
}

// digit is what a digit counts; what is none counts more than any base has.
func digit(p int) int {
	switch {
	case p >= '0' && p <= '9':
		return p - '0'
	case p >= 'a' && p <= 'f':
		return p - 'a' + 10
	case p >= 'A' && p <= 'F':
		return p - 'A' + 10
	}
	return 16
}
