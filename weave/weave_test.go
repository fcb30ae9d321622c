package weave

import (
	"math"
	"slices"
	"testing"

	"emendation/lcs"
)

// keptBy is of each place of the base the place of a side that keeps it, or -1.
func keptBy(base, side []int) []int {
	kept := make([]int, len(base))
	for i := range kept {
		kept[i] = -1
	}
	for _, p := range lcs.Pairs(base, side) {
		kept[p.A] = p.B
	}
	return kept
}

// outcomeByWords is the outcome of numbers that aren't stable, in the chapter's words.
func outcomeByWords(base, ours, theirs []int) int {
	if slices.Equal(ours, theirs) {
		return Both
	}
	if slices.Equal(ours, base) {
		return Theirs
	}
	if slices.Equal(theirs, base) {
		return Ours
	}
	return Clash
}

// chunksByWords are the chunks, in the chapter's words.
func chunksByWords(base, ours, theirs []int) []Chunk {
	inOurs, inTheirs := keptBy(base, ours), keptBy(base, theirs)
	var out []Chunk
	i, j, k := 0, 0, 0
	for i < len(base) || j < len(ours) || k < len(theirs) {
		n := 0
		for i+n < len(base) && inOurs[i+n] == j+n && inTheirs[i+n] == k+n {
			n++
		}
		toI, toJ, toK, outcome := i+n, j+n, k+n, Same
		if n == 0 {
			for toI < len(base) && (inOurs[toI] < 0 || inTheirs[toI] < 0) {
				toI++
			}
			toJ, toK = len(ours), len(theirs)
			if toI < len(base) {
				toJ, toK = inOurs[toI], inTheirs[toI]
			}
			outcome = outcomeByWords(base[i:toI], ours[j:toJ], theirs[k:toK])
		}
		out = append(out, Chunk{Range{i, toI}, Range{j, toJ}, Range{k, toK}, outcome})
		i, j, k = toI, toJ, toK
	}
	return out
}

// mergeByWords is what comes of chunks, in the chapter's words.
func mergeByWords(l []Chunk, ours, theirs []int) ([]int, bool) {
	var out []int
	for _, c := range l {
		switch c.Outcome {
		case Same, Theirs:
			out = append(out, theirs[c.Theirs.From:c.Theirs.To]...)
		case Ours, Both:
			out = append(out, ours[c.Ours.From:c.Ours.To]...)
		case Clash:
			return nil, false
		}
	}
	return out, true
}

// exchanged are chunks as they are with the sides exchanged.
func exchanged(l []Chunk) []Chunk {
	out := slices.Clone(l)
	for i, c := range l {
		out[i].Ours, out[i].Theirs = c.Theirs, c.Ours
		switch c.Outcome {
		case Ours:
			out[i].Outcome = Theirs
		case Theirs:
			out[i].Outcome = Ours
		}
	}
	return out
}

// shortLists are all lists of at most n numbers below some.
func shortLists(below, n int) [][]int {
	lists := [][]int{nil}
	for from := 0; len(lists[from]) < n; from++ {
		for x := range below {
			lists = append(lists, append(slices.Clone(lists[from]), x))
		}
	}
	return lists
}

// mixed are numbers without an order to be seen, the same in every run.
func mixed(n, below int, seed uint64) []int {
	l := make([]int, n)
	for i := range l {
		seed = seed*6364136223846793005 + 1442695040888963407
		l[i] = int(seed>>33) % below
	}
	return l
}

// counted are the numbers from one on, ahead of another.
func counted(from, to int) []int {
	var l []int
	for x := from; x < to; x++ {
		l = append(l, x)
	}
	return l
}

// edited is a list with some edits here and there.
func edited(l []int, edits int, seed uint64) []int {
	l = slices.Clone(l)
	for n, at := range mixed(edits, len(l), seed) {
		at = min(at, len(l))
		switch {
		case n%3 == 0 || at == len(l):
			l = slices.Insert(l, at, 100+n)
		case n%3 == 1:
			l = slices.Delete(l, at, at+1)
		default:
			l[at] = 100 + n
		}
	}
	return l
}

// sameMerge tells whether a merge came as wanted.
func sameMerge(l []int, ok bool, want []int, clean bool) bool {
	return ok == clean && slices.Equal(l, want)
}

// hold holds all three calls against the chapter's words.
func hold(t *testing.T, base, ours, theirs []int) {
	t.Helper()
	l, want := Chunks(base, ours, theirs), chunksByWords(base, ours, theirs)
	if !slices.Equal(l, want) {
		t.Fatalf("Chunks(%v, %v, %v): %v, not %v", base, ours, theirs, l, want)
	}
	merged, clean := mergeByWords(want, ours, theirs)
	if Clean(l) != clean {
		t.Fatalf("Clean(%v): %v", l, !clean)
	}
	if m, ok := Merge(base, ours, theirs); !sameMerge(m, ok, merged, clean) {
		t.Fatalf("Merge(%v, %v, %v): %v, %v, not %v, %v", base, ours, theirs, m, ok, merged, clean)
	}
}

// holdTiled tells whether chunks follow upon one another in all three lists, are all of them, and none is of nothing; of Same ones also that the numbers are the same, and that no two stand side by side.
func holdTiled(t *testing.T, base, ours, theirs []int, l []Chunk) {
	t.Helper()
	var at spot
	for n, c := range l {
		to := behind(c)
		if c.Base.From != at.base || c.Ours.From != at.ours || c.Theirs.From != at.theirs {
			t.Fatalf("chunk %d of %v isn't at %v", n, l, at)
		}
		if to.base < at.base || to.ours < at.ours || to.theirs < at.theirs || to == at {
			t.Fatalf("chunk %d of %v goes from %v to %v", n, l, at, to)
		}
		if c.Outcome < Same || c.Outcome > Clash || n > 0 && (c.Outcome == Same) == (l[n-1].Outcome == Same) {
			t.Fatalf("chunk %d of %v has the outcome %d", n, l, c.Outcome)
		}
		b := base[at.base:to.base]
		if c.Outcome == Same && (!slices.Equal(b, ours[at.ours:to.ours]) || !slices.Equal(b, theirs[at.theirs:to.theirs])) {
			t.Fatalf("chunk %d of %v isn't the same in %v, %v, %v", n, l, base, ours, theirs)
		}
		at = to
	}
	if at != (spot{len(base), len(ours), len(theirs)}) {
		t.Fatalf("%v are not all of %v, %v, %v", l, base, ours, theirs)
	}
}

// The outcomes are these numbers.
func TestOutcomes(t *testing.T) {
	if Same != 1 || Ours != 2 || Theirs != 3 || Both != 4 || Clash != 5 {
		t.Error(Same, Ours, Theirs, Both, Clash)
	}
}

// P5.1: chunks and what is merged, as the chapter names them.
func TestAnswers(t *testing.T) {
	for _, c := range []struct {
		name               string
		base, ours, theirs []int
		chunks             []Chunk
		merged             []int
		clean              bool
	}{
		{"nothing", nil, []int{}, nil, nil, nil, true},
		{"one that stayed", []int{7}, []int{7}, []int{7},
			[]Chunk{{Range{0, 1}, Range{0, 1}, Range{0, 1}, Same}}, []int{7}, true},
		{"the chapter's example", []int{1, 2, 3}, []int{1, 4, 3}, []int{1, 2, 3, 5}, []Chunk{
			{Range{0, 1}, Range{0, 1}, Range{0, 1}, Same},
			{Range{1, 2}, Range{1, 2}, Range{1, 2}, Ours},
			{Range{2, 3}, Range{2, 3}, Range{2, 3}, Same},
			{Range{3, 3}, Range{3, 3}, Range{3, 4}, Theirs},
		}, []int{1, 4, 3, 5}, true},
		{"ours alone has some", nil, []int{1, 2}, nil,
			[]Chunk{{Range{0, 0}, Range{0, 2}, Range{0, 0}, Ours}}, []int{1, 2}, true},
		{"theirs alone has some", nil, nil, []int{1},
			[]Chunk{{Range{0, 0}, Range{0, 0}, Range{0, 1}, Theirs}}, []int{1}, true},
		{"both have the same, the base nothing", nil, []int{1}, []int{1},
			[]Chunk{{Range{0, 0}, Range{0, 1}, Range{0, 1}, Both}}, []int{1}, true},
		{"both have unlike ones, the base nothing", nil, []int{1}, []int{2},
			[]Chunk{{Range{0, 0}, Range{0, 1}, Range{0, 1}, Clash}}, nil, false},
		{"the base alone has some", []int{1, 2}, nil, nil,
			[]Chunk{{Range{0, 2}, Range{0, 0}, Range{0, 0}, Both}}, nil, true},
		{"theirs took all", []int{1, 2}, []int{1, 2}, nil,
			[]Chunk{{Range{0, 2}, Range{0, 2}, Range{0, 0}, Theirs}}, nil, true},
		{"ours took all, theirs changed one", []int{1, 2}, nil, []int{1, 3},
			[]Chunk{{Range{0, 2}, Range{0, 0}, Range{0, 2}, Clash}}, nil, false},
		{"new ones ahead of the first that is kept", []int{1}, []int{8, 1}, []int{1}, []Chunk{
			{Range{0, 0}, Range{0, 1}, Range{0, 0}, Ours},
			{Range{0, 1}, Range{1, 2}, Range{0, 1}, Same},
		}, []int{8, 1}, true},
		{"a run ends where one side goes on otherwise", []int{1, 2}, []int{1, 2}, []int{1, 8, 2}, []Chunk{
			{Range{0, 1}, Range{0, 1}, Range{0, 1}, Same},
			{Range{1, 1}, Range{1, 1}, Range{1, 2}, Theirs},
			{Range{1, 2}, Range{1, 2}, Range{2, 3}, Same},
		}, []int{1, 8, 2}, true},
		{"both put the same in the same place", []int{1, 2, 3}, []int{1, 9, 8, 3}, []int{1, 9, 8, 3}, []Chunk{
			{Range{0, 1}, Range{0, 1}, Range{0, 1}, Same},
			{Range{1, 2}, Range{1, 3}, Range{1, 3}, Both},
			{Range{2, 3}, Range{3, 4}, Range{3, 4}, Same},
		}, []int{1, 9, 8, 3}, true},
		{"edits side by side are one chunk", []int{1, 2, 3, 4}, []int{1, 8, 3, 4}, []int{1, 2, 9, 4}, []Chunk{
			{Range{0, 1}, Range{0, 1}, Range{0, 1}, Same},
			{Range{1, 3}, Range{1, 3}, Range{1, 3}, Clash},
			{Range{3, 4}, Range{3, 4}, Range{3, 4}, Same},
		}, nil, false},
		{"edits with one between are two", []int{1, 2, 3}, []int{8, 2, 3}, []int{1, 2, 9}, []Chunk{
			{Range{0, 1}, Range{0, 1}, Range{0, 1}, Ours},
			{Range{1, 2}, Range{1, 2}, Range{1, 2}, Same},
			{Range{2, 3}, Range{2, 3}, Range{2, 3}, Theirs},
		}, []int{8, 2, 9}, true},
		{"what one side alone keeps isn't stable", []int{1, 2}, []int{2, 1}, []int{1, 2}, []Chunk{
			{Range{0, 1}, Range{0, 0}, Range{0, 1}, Ours},
			{Range{1, 2}, Range{0, 1}, Range{1, 2}, Same},
			{Range{2, 2}, Range{1, 2}, Range{2, 2}, Ours},
		}, []int{2, 1}, true},
		{"all moved alike", []int{1, 2}, []int{2, 1}, []int{2, 1}, []Chunk{
			{Range{0, 1}, Range{0, 0}, Range{0, 0}, Both},
			{Range{1, 2}, Range{0, 1}, Range{0, 1}, Same},
			{Range{2, 2}, Range{1, 2}, Range{1, 2}, Both},
		}, []int{2, 1}, true},
		{"a clean part and a clash", []int{1, 2, 3}, []int{8, 2, 4}, []int{1, 2, 5}, []Chunk{
			{Range{0, 1}, Range{0, 1}, Range{0, 1}, Ours},
			{Range{1, 2}, Range{1, 2}, Range{1, 2}, Same},
			{Range{2, 3}, Range{2, 3}, Range{2, 3}, Clash},
		}, nil, false},
		{"numbers of any size", []int{math.MinInt, 0, -1}, []int{math.MinInt, math.MaxInt, -1}, []int{math.MinInt, 0, -1, -2}, []Chunk{
			{Range{0, 1}, Range{0, 1}, Range{0, 1}, Same},
			{Range{1, 2}, Range{1, 2}, Range{1, 2}, Ours},
			{Range{2, 3}, Range{2, 3}, Range{2, 3}, Same},
			{Range{3, 3}, Range{3, 3}, Range{3, 4}, Theirs},
		}, []int{math.MinInt, math.MaxInt, -1, -2}, true},
	} {
		if l := Chunks(c.base, c.ours, c.theirs); !slices.Equal(l, c.chunks) {
			t.Errorf("%s: Chunks %v, not %v", c.name, l, c.chunks)
		}
		if Clean(c.chunks) != c.clean {
			t.Errorf("%s: Clean %v", c.name, !c.clean)
		}
		if m, ok := Merge(c.base, c.ours, c.theirs); !sameMerge(m, ok, c.merged, c.clean) {
			t.Errorf("%s: Merge %v, %v, not %v, %v", c.name, m, ok, c.merged, c.clean)
		}
	}
}

// P5.1: Clean asks for Clashes alone, wherever they stand, whatever else the chunks tell.
func TestClean(t *testing.T) {
	far := Range{-7, math.MaxInt}
	for _, c := range []struct {
		outcomes []int
		want     bool
	}{
		{nil, true},
		{[]int{Same, Ours, Theirs, Both}, true},
		{[]int{Clash}, false},
		{[]int{Clash, Same}, false},
		{[]int{Same, Clash}, false},
		{[]int{Same, Clash, Both}, false},
		{[]int{0, 6, -1, math.MinInt}, true},
		{[]int{0, 6, Clash}, false},
	} {
		var l []Chunk
		for _, o := range c.outcomes {
			l = append(l, Chunk{far, far, Range{}, o})
		}
		all := append(l, Chunk{Outcome: Clash})
		if Clean(all[:len(l)]) != c.want {
			t.Errorf("Clean of %v: %v", c.outcomes, !c.want)
		}
	}
}

// P5.1, P5.2: all short lists, three by three.
func TestShortLists(t *testing.T) {
	for _, of := range []struct{ below, n int }{{1, 4}, {2, 4}, {3, 3}, {6, 2}} {
		some := shortLists(of.below, of.n)
		for _, base := range some {
			for _, ours := range some {
				for _, theirs := range some {
					hold(t, base, ours, theirs)
					l := Chunks(base, ours, theirs)
					holdTiled(t, base, ours, theirs, l)
					if e := Chunks(base, theirs, ours); !slices.Equal(e, exchanged(l)) {
						t.Fatalf("of %v, %v, %v: %v, exchanged %v", base, ours, theirs, l, e)
					}
				}
			}
		}
	}
}

// P5.1, P5.2: lists that both sides edited, as documents are.
func TestEditedLists(t *testing.T) {
	clean := 0
	for seed := range uint64(600) {
		base := mixed(120, 20+int(seed), seed)
		ours, theirs := edited(base, int(seed%14), seed+1), edited(base, int(seed%11), seed+9)
		hold(t, base, ours, theirs)
		l := Chunks(base, ours, theirs)
		holdTiled(t, base, ours, theirs, l)
		if e := Chunks(base, theirs, ours); !slices.Equal(e, exchanged(l)) {
			t.Fatalf("of %v, %v, %v: %v, exchanged %v", base, ours, theirs, l, e)
		}
		m, ok := Merge(base, ours, theirs)
		e, also := Merge(base, theirs, ours)
		if !sameMerge(e, also, m, ok) {
			t.Fatalf("merged %v, %v, exchanged %v, %v", m, ok, e, also)
		}
		if ok {
			clean++
		}
	}
	if clean < 100 || clean > 500 {
		t.Errorf("%d of 600 are clean: the lists try too little", clean)
	}
}

// holdOneSide holds what comes of a base and a side, with the other side one of these.
func holdOneSide(t *testing.T, base, side []int) {
	t.Helper()
	other := slices.Clone(base)
	if m, ok := Merge(base, side, other); !sameMerge(m, ok, side, true) {
		t.Fatalf("theirs the base %v: of %v %v, %v", base, side, m, ok)
	}
	if m, ok := Merge(base, other, side); !sameMerge(m, ok, side, true) {
		t.Fatalf("ours the base %v: of %v %v, %v", base, side, m, ok)
	}
	if m, ok := Merge(base, side, slices.Clone(side)); !sameMerge(m, ok, side, true) {
		t.Fatalf("base %v, both %v: %v, %v", base, side, m, ok)
	}
	for _, c := range Chunks(base, side, other) {
		if c.Outcome != Same && c.Outcome != Ours {
			t.Fatalf("theirs the base %v: of %v %v", base, side, c)
		}
	}
	for _, c := range Chunks(base, side, side) {
		if c.Outcome != Same && c.Outcome != Both {
			t.Fatalf("base %v, both %v: %v", base, side, c)
		}
	}
}

// P5.2: with one side the base what comes is the other side; with both alike that.
func TestOneSide(t *testing.T) {
	for _, of := range []struct{ below, n int }{{2, 6}, {3, 4}, {5, 3}} {
		some := shortLists(of.below, of.n)
		for _, base := range some {
			for _, side := range some {
				holdOneSide(t, base, side)
			}
		}
	}
	for seed := range uint64(100) {
		base := mixed(100, 5, seed)
		holdOneSide(t, base, edited(base, 9, seed+1))
		holdOneSide(t, base, mixed(90, 5, seed+2))
	}
}

// R3: the lists stay as they are, nothing behind them is read or written, and no two answers share memory.
func TestListsStay(t *testing.T) {
	all := []int{1, 2, 3, 1, 4, 3, 1, 2, 3, 5, 5, 5}
	was := slices.Clone(all)
	base, ours, theirs := all[:3], all[3:6], all[6:10]
	want := []int{1, 4, 3, 5}
	first, _ := Merge(base, ours, theirs)
	l := Chunks(base, ours, theirs)
	if !slices.Equal(first, want) || len(l) != 4 || !Clean(l) || !slices.Equal(all, was) {
		t.Errorf("merged %v, of %v, that was %v", first, all, was)
	}
	first[0] = 99
	_ = append(first[:1], 98)
	l[0] = Chunk{Outcome: Clash}
	_ = append(l[:1], Chunk{})
	if m, ok := Merge(base, ours, theirs); !sameMerge(m, ok, want, true) || !slices.Equal(all, was) {
		t.Errorf("merged again: %v, %v, of %v", m, ok, all)
	}
	if again := Chunks(base, ours, theirs); !slices.Equal(again, chunksByWords(base, ours, theirs)) {
		t.Errorf("chunks again: %v", again)
	}
	for _, side := range [][][]int{{base, ours, base}, {base, base, ours}, {base, ours, ours}} {
		m, _ := Merge(side[0], side[1], side[2])
		m[0] = 99
		if _ = append(m, 98); !slices.Equal(all, was) {
			t.Fatalf("what is merged shares memory: %v", all)
		}
	}
	if m, ok := Merge(all[:0], all[:0], all[:0]); len(m) != 0 || !ok {
		t.Errorf("read behind lists: %v, %v", m, ok)
	}
}

// R1: great lists are woven.
func TestGreatLists(t *testing.T) {
	const n = 1 << 17
	base := counted(0, n)
	ours, theirs := slices.Clone(base), slices.Clone(base)
	for i := 0; i < n; i += 4 {
		ours[i] += n
		theirs[i+2] -= n
	}
	want := slices.Clone(ours)
	for i := 2; i < n; i += 4 {
		want[i] = theirs[i]
	}
	if m, ok := Merge(base, ours, theirs); !sameMerge(m, ok, want, true) {
		t.Errorf("far edits: %d numbers, %v", len(m), ok)
	}
	if l := Chunks(base, ours, theirs); len(l) != n {
		t.Errorf("far edits: %d chunks", len(l))
	}
	theirs[0]--
	if m, ok := Merge(base, ours, theirs); len(m) != 0 || ok {
		t.Errorf("a clash at the beginning: %d numbers, %v", len(m), ok)
	}
	if l := Chunks(base, nil, counted(n, 2*n)); len(l) != 1 || l[0] != (Chunk{Range{0, n}, Range{}, Range{0, n}, Clash}) {
		t.Errorf("nothing in common: %v", l)
	}
}
