package token

import (
	"thicket/api"
	"thicket/points"
)

// class of points, or all but those.
type class struct {
	name string
	not  bool
}

// classes by the letters that mean them behind a `\`.
func classes() map[int]class {
	return map[int]class{
		'd': {name: "digit"}, 'D': {name: "digit", not: true},
		'w': {name: "word"}, 'W': {name: "word", not: true},
		's': {name: "space"}, 'S': {name: "space", not: true},
		'h': {name: "xdigit"}, 'H': {name: "xdigit", not: true},
	}
}

func (c class) token() api.Token {
	return api.Token{Kind: api.TokenClass, Text: c.name, Not: c.not}
}

// escape is what a `\` and what is behind it mean.
func (r *reader) escape() api.Token {
	p := r.take()
	switch r.dialect {
	case api.DialectRuby:
		return r.rubyEscape(p)
	case api.DialectEmacs:
		return r.emacsEscape(p)
	}
	return point(p)
}

func (r *reader) emacsEscape(p int) api.Token {
	switch p {
	case '(', ')', '|', '{':
		return r.parting(p)
	case 'w', 'W':
		return classes()[p].token()
	case 'b':
		return look(api.NodeWord)
	case 'B':
		return look(api.NodeNoWord)
	case '`':
		return look(api.NodeTextStart)
	case '\'':
		return look(api.NodeTextEnd)
	}
	if p >= '1' && p <= '9' {
		return again(p - '0')
	}
	return point(p)
}

func (r *reader) rubyEscape(p int) api.Token {
	if c, ok := classes()[p]; ok {
		return c.token()
	}
	switch p {
	case 'A':
		return look(api.NodeTextStart)
	case 'z':
		return look(api.NodeTextEnd)
	case 'b':
		return look(api.NodeWord)
	case 'B':
		return look(api.NodeNoWord)
	case 'x':
		return r.hexPoint()
	case 'u':
		return point(r.hex(4, 4))
	case 'k':
		return r.againBy()
	}
	if p >= '1' && p <= '9' {
		return r.againDigits(p - '0')
	}
	return point(control(p))
}

// control is the point that a letter stands for; what is no letter, and not 0, stands for itself.
func control(p int) int {
	switch p {
	case 'n':
		return 10
	case 't':
		return 9
	case 'r':
		return 13
	case 'f':
		return 12
	case 'v':
		return 11
	case 'a':
		return 7
	case 'e':
		return 27
	}
	if points.IsLetter(p) || p == '0' {
		panic(api.ErrForm)
	}
	return p
}

// hexPoint is the point whose digits stand behind `\x`.
func (r *reader) hexPoint() api.Token {
	if !r.Skip('{') {
		return point(r.hex(1, 2))
	}
	p := r.hex(1, 6)
	r.must('}')
	if p > api.MaxPoint {
		panic(api.ErrRange)
	}
	return point(p)
}

func again(number int) api.Token { return api.Token{Kind: api.TokenAgain, Number: number} }

// againDigits is a group by one digit, and perhaps another one.
func (r *reader) againDigits(number int) api.Token {
	if next, count := r.digits(10, 1); count == 1 {
		number = number*10 + next
	}
	return again(number)
}

// againBy is a group by what stands behind `\k`.
func (r *reader) againBy() api.Token {
	r.must('<')
	t := again(0)
	back := r.Skip('-')
	number, count := r.digits(10, maxDigits)
	switch {
	case count > 0 && back:
		t.Number = -number
	case count > 0:
		t.Number = number
	case back:
		panic(api.ErrForm)
	default:
		t.Text = r.name()
	}
	r.must('>')
	if t.Number == 0 && t.Text == "" {
		panic(api.ErrRange)
	}
	return t
}
