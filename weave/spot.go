package weave

import "emendation/lcs"

// spot is a place in each of the three lists.
type spot struct{ base, ours, theirs int }

// on is the spot so many places further on in all three.
func (s spot) on(n int) spot { return spot{s.base + n, s.ours + n, s.theirs + n} }

// stableSpots are the stable ones, in order, by the pairs of the base and each side.
func stableSpots(ours, theirs []lcs.Pair) []spot {
	var out []spot
	for len(ours) > 0 && len(theirs) > 0 {
		o, t := ours[0], theirs[0]
		if o.A == t.A {
			out = append(out, spot{o.A, o.B, t.B})
		}
		if o.A <= t.A {
			ours = ours[1:]
		}
		if t.A <= o.A {
			theirs = theirs[1:]
		}
	}
	return out
}

// runFrom counts the spots from one on, side by side in all three lists, with which the stable ones begin.
func runFrom(at spot, stable []spot) int {
	n := 0
	for n < len(stable) && stable[n] == at.on(n) {
		n++
	}
	return n
}

// firstOf is the first of the stable spots; the ends, if there is none.
func firstOf(stable []spot, ends spot) spot {
	if len(stable) == 0 {
		return ends
	}
	return stable[0]
}

// between is the chunk from one spot on, ahead of another; its outcome isn't told yet.
func between(from, to spot) Chunk {
	return Chunk{
		Base:   Range{from.base, to.base},
		Ours:   Range{from.ours, to.ours},
		Theirs: Range{from.theirs, to.theirs},
	}
}

// behind is the spot behind a chunk.
func behind(c Chunk) spot { return spot{c.Base.To, c.Ours.To, c.Theirs.To} }
