package parse

import (
	"thicket/api"
	"thicket/token"
	"thicket/tree"
)

// maxAhead is how many TokenRepeats may stand just ahead of another one.
const maxAhead = 3

// reader of a pattern: the token at which it is, and what it knows from those ahead of it.
type reader struct {
	dialect int
	pattern []int
	token   api.Token // without a Kind at the end
	at      int       // where it begins
	next    int       // where the one behind it does
	folded  bool
	deep    int // how many TokenOpens are not closed
	groups  int
	names   []api.Name
	agains  []again
}

// giveUp for what is wrong at a point.
func giveUp(err api.Errno, at int) { panic(api.Fault{Err: err, At: at}) }

// advance to the token behind this one. It may be wrong itself, so what is wrong with this one must be told before.
func (r *reader) advance() {
	r.at = r.next
	if r.at == len(r.pattern) {
		r.token = api.Token{}
		return
	}
	t, next, err := token.Next(r.dialect, r.pattern, r.at)
	if err != api.OK {
		giveUp(err, r.at)
	}
	r.token, r.next = t, next
}

// whole pattern, from its beginning to its end.
func (r *reader) whole(folded bool) api.Pattern {
	r.advance()
	root := r.branches(folded)
	if r.token.Kind == api.TokenClose {
		giveUp(api.ErrForm, r.at)
	}
	settle(&root, r.againNumbers())
	if _, err := tree.Count(root); err != api.OK {
		giveUp(err, 0)
	}
	return api.Pattern{Tree: root, Groups: r.groups, Names: r.names}
}

// branches up to a TokenClose, or the end. What options change in them is as it was behind them.
func (r *reader) branches(folded bool) api.Node {
	outside := r.folded
	r.folded = folded
	l := []api.Node{r.branch()}
	for r.token.Kind == api.TokenBar {
		r.advance()
		l = append(l, r.branch())
	}
	r.folded = outside
	return either(l)
}

func (r *reader) branch() api.Node {
	var pieces []api.Node
	for !r.isBranchEnd() {
		pieces = append(pieces, r.piece())
	}
	return row(pieces)
}

func (r *reader) isBranchEnd() bool {
	return r.at == len(r.pattern) || r.token.Kind == api.TokenBar || r.token.Kind == api.TokenClose
}

func (r *reader) piece() api.Node {
	mayRepeat := r.token.Kind != api.TokenOption
	n := r.atom()
	for ahead := 0; r.token.Kind == api.TokenRepeat; ahead++ {
		if !mayRepeat {
			giveUp(api.ErrForm, r.at)
		}
		if ahead > maxAhead {
			giveUp(api.ErrMany, r.at)
		}
		n = repeated(n, r.token)
		r.advance()
	}
	return n
}
