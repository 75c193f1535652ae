package points

import (
	"slices"

	"thicket/api"
)

// CheckPattern tells what is wrong with a pattern ahead of reading it: whichever layer reads it, this comes first.
func CheckPattern(dialect int, l []int) api.Errno {
	if dialect != api.DialectRuby && dialect != api.DialectPosix && dialect != api.DialectEmacs {
		return api.ErrKind
	}
	if len(l) > api.MaxPattern {
		return api.ErrMany
	}
	if slices.ContainsFunc(l, func(p int) bool { return !Is(p) }) {
		return api.ErrRange
	}
	return api.OK
}

// Cursor goes through a pattern, from At on, and only reads it.
type Cursor struct {
	Pattern []int
	At      int
}

// Ended tells whether no point is left.
func (c *Cursor) Ended() bool { return c.At >= len(c.Pattern) }

// Is what comes next these points?
func (c *Cursor) Is(these ...int) bool {
	end := c.At + len(these)
	return end <= len(c.Pattern) && slices.Equal(c.Pattern[c.At:end], these)
}

// Skip these points, if they come next; it tells whether they did.
func (c *Cursor) Skip(these ...int) bool {
	if !c.Is(these...) {
		return false
	}
	c.At += len(these)
	return true
}

// Name reads as much of a name as comes next, up to what can be no part of it, or would make it too long; there may be none.
func (c *Cursor) Name() string {
	var text []byte
	for len(text) < MaxName && !c.Ended() && MayNameHave(c.Pattern[c.At], len(text) == 0) {
		text = append(text, byte(c.Pattern[c.At]))
		c.At++
	}
	return string(text)
}
