package seek

import "thicket/api"

func (m *Matcher) repeat(n api.Node, kid ways) ways {
	r := &repeat{Matcher: m, kid: kid, least: n.Least, most: n.Most, lazy: n.Way == api.WayLazy}
	rounds := func(follow step) step { return r.round(0, follow) }
	if n.Way == api.WayPossessive {
		return m.first(rounds)
	}
	return rounds
}

type repeat struct {
	*Matcher
	kid         ways
	least, most int
	lazy        bool
}

// round behind so many that were done.
func (r *repeat) round(done int, follow step) step {
	switch {
	case done < r.least:
		return r.kid(func() step { return r.round(done+1, follow) })
	case done == r.most:
		return follow
	case r.lazy:
		r.lay(func() step { return r.more(done, follow) })
		return follow
	}
	r.lay(follow)
	return r.more(done, follow)
}

// more than there must be: a round that goes nowhere is none, or there might be no end of them.
func (r *repeat) more(done int, follow step) step {
	from := r.At
	return r.kid(func() step {
		if r.At == from {
			return r.fail()
		}
		return r.round(done+1, follow)
	})
}
