package seek

import "thicket/api"

// behind: those ways of the Kid that begin as many points back as it may take, the fewest first, and end where one is.
func (m *Matcher) behind(kid ways, takes api.Facts) ways {
	return func(follow step) step {
		b := &behind{Matcher: m, kid: kid, most: min(takes.Most, m.At), here: m.At, follow: follow}
		return b.from(takes.Least)
	}
}

type behind struct {
	*Matcher
	kid    ways
	most   int
	here   int
	follow step
}

// from so many points back, and then from more.
func (b *behind) from(back int) step {
	if back > b.most {
		return b.fail()
	}
	b.lay(func() step { return b.from(back + 1) })
	b.At = b.here - back
	return b.kid(func() step {
		if b.At != b.here {
			return b.fail()
		}
		return b.follow
	})
}
