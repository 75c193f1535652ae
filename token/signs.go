package token

import "thicket/api"

// noEnd is how often at most something is asked for that has no end.
const noEnd = -1

func point(p int) api.Token { return api.Token{Kind: api.TokenPoint, Number: p} }

func look(node int) api.Token { return api.Token{Kind: api.TokenLook, Number: node} }

func open(node int) api.Token { return api.Token{Kind: api.TokenOpen, Number: node} }

// token that begins here.
func (r *reader) token() api.Token {
	switch p := r.take(); p {
	case '\\':
		return r.escape()
	case '.':
		return api.Token{Kind: api.TokenAny}
	case '^':
		return look(api.NodeLineStart)
	case '$':
		return look(api.NodeLineEnd)
	case '[':
		return api.Token{Kind: api.TokenSet}
	case '*':
		return r.repeat(0, noEnd)
	case '+':
		return r.repeat(1, noEnd)
	case '?':
		return r.repeat(0, 1)
	default:
		if r.dialect == api.DialectEmacs {
			return point(p)
		}
		return r.parting(p)
	}
}

// parting is what groups, parts and counts: signs that DialectEmacs has behind a `\` only, so that both ways lead here.
func (r *reader) parting(p int) api.Token {
	switch p {
	case '(':
		return r.open()
	case ')':
		return api.Token{Kind: api.TokenClose}
	case '|':
		return api.Token{Kind: api.TokenBar}
	case '{':
		return r.times()
	}
	return point(p)
}

// repeat is a token of how often, with what may stand behind it.
func (r *reader) repeat(least, most int) api.Token {
	t := api.Token{Kind: api.TokenRepeat, Least: least, Most: most, Way: api.WayGreedy}
	if r.dialect != api.DialectRuby {
		return t
	}
	if r.Skip('?') {
		t.Way = api.WayLazy
	} else if r.Skip('+') {
		t.Way = api.WayPossessive
	}
	return t
}

// times is what a `{` begins.
func (r *reader) times() api.Token {
	behind := r.At
	least, most, ok := r.bounds()
	switch {
	case !ok && r.dialect == api.DialectRuby:
		r.At = behind
		return point('{')
	case !ok:
		panic(api.ErrForm)
	case most != noEnd && least > most:
		panic(api.ErrRange)
	case least > api.MaxTimes || most > api.MaxTimes:
		panic(api.ErrMany)
	}
	return r.repeat(least, most)
}

// bounds between a `{` and its `}`; false, if it is none of their forms.
func (r *reader) bounds() (least, most int, ok bool) {
	least, digits := r.digits(10, maxDigits)
	most = least
	if r.Skip(',') {
		last, count := r.digits(10, maxDigits)
		most = last
		if count == 0 {
			most = noEnd
		}
		digits += count
	}
	if digits == 0 {
		return 0, 0, false
	}
	if r.dialect == api.DialectEmacs {
		return least, most, r.Skip('\\', '}')
	}
	return least, most, r.Skip('}')
}

// open is what a `(` begins.
func (r *reader) open() api.Token {
	if r.dialect != api.DialectRuby || !r.Skip('?') {
		return open(api.NodeGroup)
	}
	switch r.take() {
	case ':':
		return open(api.NodeEmpty)
	case '>':
		return open(api.NodeAtomic)
	case '=':
		return open(api.NodeAhead)
	case '!':
		return open(api.NodeNotAhead)
	case '<':
		return r.openBehind()
	case 'i':
		return r.option(1)
	case '-':
		r.must('i')
		return r.option(-1)
	}
	panic(api.ErrForm)
}

// openBehind is what a `(?<` begins: it looks behind, or has a name.
func (r *reader) openBehind() api.Token {
	if r.Skip('=') {
		return open(api.NodeBehind)
	}
	if r.Skip('!') {
		return open(api.NodeNotBehind)
	}
	t := open(api.NodeGroup)
	t.Text = r.name()
	r.must('>')
	return t
}

// option for what is in a group, or from there on.
func (r *reader) option(fold int) api.Token {
	if r.Skip(')') {
		return api.Token{Kind: api.TokenOption, Fold: fold}
	}
	r.must(':')
	t := open(api.NodeEmpty)
	t.Fold = fold
	return t
}
