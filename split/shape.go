package split

import "thicket/api"

// part of a number, as a byte has it: so many bits, from the one by the number shift on, with lead above them.
type part struct{ lead, shift, bits int }

// shape of how points are written, from first to last, less something: a byte for each part.
type shape struct {
	first, last, less int
	parts             []part
}

// The points that are no scalars lie between these two; firstPaired is the first one that UTF-16 writes as two units.
const (
	lastBelow   = 0xd7ff
	firstAbove  = 0xe000
	firstPaired = 0x10000
)

// shapesOf an encoding: all that it can write is of one of them, and of one alone.
func shapesOf(enc int) ([]shape, bool) {
	switch enc {
	case api.EncUTF8:
		three := []part{{0xe0, 12, 4}, {0x80, 6, 6}, {0x80, 0, 6}}
		return []shape{
			{0, 0x7f, 0, []part{{0, 0, 7}}},
			{0x80, 0x7ff, 0, []part{{0xc0, 6, 5}, {0x80, 0, 6}}},
			{0x800, lastBelow, 0, three},
			{firstAbove, 0xffff, 0, three},
			{0x10000, api.MaxPoint, 0, []part{{0xf0, 18, 3}, {0x80, 12, 6}, {0x80, 6, 6}, {0x80, 0, 6}}},
		}, true
	case api.EncUTF16LE:
		return pairedShapes([]part{{0, 0, 8}, {0, 8, 8}}, []part{{0, 10, 8}, {0xd8, 18, 2}, {0, 0, 8}, {0xdc, 8, 2}}), true
	case api.EncUTF16BE:
		return pairedShapes([]part{{0, 8, 8}, {0, 0, 8}}, []part{{0xd8, 18, 2}, {0, 10, 8}, {0xdc, 8, 2}, {0, 0, 8}}), true
	case api.EncLatin1:
		return []shape{{0, 255, 0, []part{{0, 0, 8}}}}, true
	}
	return nil, false
}

// pairedShapes are those of UTF-16, by the parts of one unit and of two.
func pairedShapes(one, two []part) []shape {
	return []shape{
		{0, lastBelow, 0, one},
		{firstAbove, firstPaired - 1, 0, one},
		{firstPaired, api.MaxPoint, firstPaired, two},
	}
}

// eachBlock hands on what of a range is of this shape, less what is taken off, in blocks that are one road each.
func (s shape) eachBlock(r api.Range, take func(from, to int)) {
	from, to := max(r.From, s.first), min(r.To, s.last)
	if from <= to {
		s.divide(from-s.less, to-s.less, take)
	}
}

// divide numbers into blocks: in a block, wherever a part is not the same in all numbers, the parts below it have all that they can.
func (s shape) divide(from, to int, take func(from, to int)) {
	for _, p := range s.parts {
		below := 1<<p.shift - 1
		if from>>p.shift == to>>p.shift {
			continue
		}
		if from&below != 0 {
			s.divide(from, from|below, take)
			s.divide((from|below)+1, to, take)
			return
		}
		if to&below != below {
			s.divide(from, (to&^below)-1, take)
			s.divide(to&^below, to, take)
			return
		}
	}
	take(from, to)
}

// road of a block.
func (s shape) road(from, to int) []api.Range {
	road := make([]api.Range, len(s.parts))
	for i, p := range s.parts {
		road[i] = api.Range{From: p.byteOf(from), To: p.byteOf(to)}
	}
	return road
}

func (p part) byteOf(n int) int {
	return p.lead + (n>>p.shift)&(1<<p.bits-1)
}
