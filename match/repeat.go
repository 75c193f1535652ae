package match

import "thicket/api"

func (m *matcher) repeat(n api.Node, kid ways) ways {
	r := &repeat{matcher: m, kid: kid, least: n.Least, most: n.Most, lazy: n.Way == api.WayLazy}
	rounds := func(follow step) step { return r.round(0, follow) }
	if n.Way == api.WayPossessive {
		return m.first(rounds)
	}
	return rounds
}

type repeat struct {
	*matcher
	kid         ways
	least, most int
	lazy        bool
}

// round behind so many that were done.
func (r *repeat) round(done int, follow step) step {
	switch {
	case done < r.least:
		return r.kid(func() step { return r.round(done+1, follow) })
	case done == r.most:
		return follow
	case r.lazy:
		r.lay(func() step { return r.more(done, follow) })
		return follow
	}
	r.lay(follow)
	return r.more(done, follow)
}

// more than there must be: a round that goes nowhere is none, or there might be no end of them.
func (r *repeat) more(done int, follow step) step {
	from := r.at
	return r.kid(func() step {
		if r.at == from {
			return r.fail()
		}
		return r.round(done+1, follow)
	})
}
