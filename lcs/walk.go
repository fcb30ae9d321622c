package lcs

import "math/bits"

// wholeWords is how great a table is kept whole: of a greater one a second reckoning costs less than its memory.
const wholeWords = 1 << 20

// walk goes through the columns of two lists from the first one on, though they can be reckoned from the last one on alone: each is told by what the one behind it had otherwise.
// Of a great table only some columns are kept, and what lies between two of them is reckoned anew when the walk comes there.
type walk struct {
	b      []int
	length int
	places map[int][]word
	wide   int            // how many columns are reckoned at once
	kept   *table[uint64] // the columns behind these, the first ones last
	were   *table[word]   // what the next columns had otherwise, the first ones last
	now    *column
	at     int
}

// newWalk is a walk that stands at the first column.
func newWalk(a, b []int, whole int) *walk {
	w := &walk{b: b, length: len(a), places: placesOf(a), kept: newTable[uint64](), were: newTable[word]()}
	c := lastColumn(a)
	w.wide = wideOf(len(c.words), len(b), whole)
	w.kept.add(c.words)
	var were []word
	for j := len(b) - 1; j >= w.wide; j-- {
		were = c.back(w.places[b[j]], were[:0])
		if j%w.wide == 0 {
			w.kept.add(c.words)
		}
	}
	w.reckon()
	return w
}

// wideOf is how many of some columns are reckoned at once: all of a small table; else about their square root, so that the columns kept and those reckoned are least together.
func wideOf(words, columns, whole int) int {
	return max(1<<(bits.Len(uint(columns))/2), whole/max(words, 1))
}

// reckon goes back from the next column that was kept to the place of the walk.
func (w *walk) reckon() {
	w.now = columnOf(w.kept.take())
	var were []word
	for j := min(w.at+w.wide, len(w.b)) - 1; j >= w.at; j-- {
		were = w.now.back(w.places[w.b[j]], were[:0])
		w.were.add(were)
	}
}

// counts tells whether more can be had in common from places i, j on than from behind i. From call to call j never falls.
func (w *walk) counts(i, j int) bool {
	for w.at < j {
		w.on()
	}
	return w.now.has(wordOf(i, w.length))
}

// on goes to the next column.
func (w *walk) on() {
	for _, was := range w.were.take() {
		w.now.put(was)
	}
	w.at++
	if w.at%w.wide == 0 && w.at < len(w.b) {
		w.reckon()
	}
}
