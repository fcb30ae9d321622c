package lcs

import "math/bits"

// column is, at one place of the list b, a bit for each place of the list a: 1, if more can be had in common from it on than from behind it.
// Such a bit is all that a walk asks of the whole table, so that 64 of its cells are one word. The bits stand from a's end on: a borrow then runs towards its beginning, as the table is filled.
type column struct {
	words []uint64
	top   int // from it on all words are 0: a borrow need not run through them
}

// word is one of a column's words: which, and its bits.
type word struct {
	at   int
	bits uint64
}

// wordOf is where the bit of a place stands, of a list of so many.
func wordOf(place, length int) word {
	behind := length - 1 - place
	return word{behind / 64, 1 << (behind % 64)}
}

// columnOf is the column of some words.
func columnOf(words []uint64) *column { return &column{words, len(words)} }

// lastColumn is the one at b's end: there nothing is to be had.
func lastColumn(a []int) *column { return columnOf(make([]uint64, (len(a)+63)/64)) }

// firstColumn is the one at b's beginning.
func firstColumn(a, b []int) *column {
	places := placesOf(a)
	c := lastColumn(a)
	var were []word
	for j := len(b) - 1; j >= 0; j-- {
		were = c.back(places[b[j]], were[:0])
	}
	return c
}

// placesOf is where each number stands in a list, as the words of a column that have such a place, in order.
func placesOf(a []int) map[int][]word {
	places := make(map[int][]word)
	for i := len(a) - 1; i >= 0; i-- {
		w := wordOf(i, len(a))
		l := places[a[i]]
		if n := len(l); n > 0 && l[n-1].at == w.at {
			l[n-1].bits |= w.bits
			continue
		}
		places[a[i]] = append(l, w)
	}
	return places
}

// back makes of a column the one a place further ahead in b, where the number of these places stands, and adds to a list what the words were that it changed.
// From each 1 on to the next, as the bits stand, as much can be had behind any place: there the first of the number's places has the pair, and so becomes the 1 instead of the next. Behind the last 1 it is a 1 more. One subtraction does this from all 1s on at once.
func (c *column) back(places, were []word) []word {
	var borrow uint64
	for at := 0; ; at++ {
		if borrow == 0 || at >= c.top { // all words up to the next of these places stay
			if len(places) == 0 {
				break
			}
			at = places[0].at
		}
		var here uint64
		if len(places) > 0 && places[0].at == at {
			here, places = places[0].bits, places[1:]
		}
		was := c.words[at]
		var less uint64
		less, borrow = bits.Sub64(was, here&^was, borrow)
		if now := (was | here) & less; now != was {
			were = append(were, word{at, was})
			c.put(word{at, now})
		}
	}
	for c.top > 0 && c.words[c.top-1] == 0 {
		c.top--
	}
	return were
}

// put lays a word in its place.
func (c *column) put(w word) {
	c.words[w.at] = w.bits
	c.top = max(c.top, w.at+1)
}

// count is how many can be had in common from a's beginning on.
func (c *column) count() int {
	n := 0
	for _, w := range c.words {
		n += bits.OnesCount64(w)
	}
	return n
}

// has tells whether the bit of a place, alone in its word, is 1.
func (c *column) has(place word) bool { return c.words[place.at]&place.bits != 0 }
