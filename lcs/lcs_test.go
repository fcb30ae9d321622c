package lcs

import (
	"math"
	"slices"
	"testing"
)

// mostTable is, of all two places, the most that can be had in common from them on, in the chapter's words.
func mostTable(a, b []int) [][]int {
	most := make([][]int, len(a)+1)
	for i := range most {
		most[i] = make([]int, len(b)+1)
	}
	for i := len(a) - 1; i >= 0; i-- {
		for j := len(b) - 1; j >= 0; j-- {
			most[i][j] = max(most[i+1][j], most[i][j+1])
			if a[i] == b[j] {
				most[i][j] = most[i+1][j+1] + 1
			}
		}
	}
	return most
}

// pairsByWords are the pairs, in the chapter's words.
func pairsByWords(a, b []int) []Pair {
	most := mostTable(a, b)
	var out []Pair
	for i, j := 0, 0; i < len(a) && j < len(b); {
		if a[i] == b[j] {
			out = append(out, Pair{i, j})
			i, j = i+1, j+1
		} else if most[i+1][j] >= most[i][j+1] {
			i++
		} else {
			j++
		}
	}
	return out
}

// shortLists are all lists of at most n numbers below some.
func shortLists(below, n int) [][]int {
	lists := [][]int{nil}
	for from := 0; len(lists[from]) < n; from++ {
		for x := range below {
			lists = append(lists, append(slices.Clone(lists[from]), x))
		}
	}
	return lists
}

// mixed are numbers without an order to be seen, the same in every run.
func mixed(n, below int, seed uint64) []int {
	l := make([]int, n)
	for i := range l {
		seed = seed*6364136223846793005 + 1442695040888963407
		l[i] = int(seed>>33) % below
	}
	return l
}

// counted are the numbers from one on, ahead of another.
func counted(from, to int) []int {
	var l []int
	for x := from; x < to; x++ {
		l = append(l, x)
	}
	return l
}

// hold holds all three calls against the chapter's words.
func hold(t *testing.T, a, b []int) {
	t.Helper()
	want := pairsByWords(a, b)
	if l := Pairs(a, b); !slices.Equal(l, want) {
		t.Fatalf("Pairs(%v, %v): %v, not %v", a, b, l, want)
	}
	if n := Length(a, b); n != len(want) {
		t.Fatalf("Length(%v, %v): %d, not %d", a, b, n, len(want))
	}
	dice := 1000
	if both := len(a) + len(b); both > 0 {
		dice = len(want) * 2000 / both
	}
	if n := Dice(a, b); n != dice {
		t.Fatalf("Dice(%v, %v): %d, not %d", a, b, n, dice)
	}
}

// P4.1, P4.2: answers as the chapter names them.
func TestAnswers(t *testing.T) {
	for _, c := range []struct {
		a, b  []int
		pairs []Pair
		dice  int
	}{
		{nil, nil, nil, 1000},
		{[]int{}, nil, nil, 1000},
		{nil, []int{1}, nil, 0},
		{[]int{1}, []int{}, nil, 0},
		{[]int{1}, []int{2}, nil, 0},
		{[]int{1}, []int{1}, []Pair{{0, 0}}, 1000},
		{[]int{1, 2, 3}, []int{2, 3, 1}, []Pair{{1, 0}, {2, 1}}, 666},
		{[]int{2, 3, 1}, []int{1, 2, 3}, []Pair{{0, 1}, {1, 2}}, 666},
		{[]int{1, 2}, []int{2, 1}, []Pair{{1, 0}}, 500},
		{[]int{1, 1}, []int{1}, []Pair{{0, 0}}, 666},
		{[]int{1}, []int{1, 1}, []Pair{{0, 0}}, 666},
		{[]int{1, 1}, []int{9, 1}, []Pair{{1, 1}}, 500},
		{[]int{9, 1}, []int{1, 1}, []Pair{{1, 0}}, 500},
		{[]int{5, 5}, []int{6, 5, 5, 5}, []Pair{{0, 1}, {1, 2}}, 666},
		{[]int{6, 5, 5, 5}, []int{5, 5}, []Pair{{1, 0}, {2, 1}}, 666},
		{[]int{1, 2, 3, 4}, []int{1, 3, 2, 4}, []Pair{{0, 0}, {2, 1}, {3, 3}}, 750},
		{[]int{1, 2, 3}, []int{4, 5, 6, 7}, nil, 0},
		{[]int{0, -1, math.MinInt, math.MaxInt}, []int{math.MaxInt, -1, math.MinInt, 0}, []Pair{{1, 1}, {2, 2}}, 500},
		{[]int{7}, []int{1, 2, 7}, []Pair{{0, 2}}, 500},
		{[]int{1, 2, 3, 4, 5, 6}, []int{7}, nil, 0},
		{[]int{1, 2, 3, 4, 5, 6}, []int{6}, []Pair{{5, 0}}, 285},
	} {
		if l := Pairs(c.a, c.b); !slices.Equal(l, c.pairs) {
			t.Errorf("Pairs(%v, %v): %v, not %v", c.a, c.b, l, c.pairs)
		}
		if n := Length(c.a, c.b); n != len(c.pairs) {
			t.Errorf("Length(%v, %v): %d, not %d", c.a, c.b, n, len(c.pairs))
		}
		if n := Dice(c.a, c.b); n != c.dice {
			t.Errorf("Dice(%v, %v): %d, not %d", c.a, c.b, n, c.dice)
		}
	}
}

// P4.1, P4.2: all short lists, two by two.
func TestShortLists(t *testing.T) {
	for _, of := range []struct{ below, n int }{{2, 7}, {3, 5}, {5, 3}} {
		some := shortLists(of.below, of.n)
		for _, a := range some {
			for _, b := range some {
				hold(t, a, b)
			}
		}
	}
}

// P4.1, P4.2: lists about as long as a column's words, of few and of many numbers, with ends that are alike and without.
func TestLongerLists(t *testing.T) {
	for _, n := range []int{1, 63, 64, 65, 127, 128, 129, 191, 193, 300} {
		for _, m := range []int{1, 2, 64, 65, 130, 257} {
			for _, below := range []int{1, 2, 3, 10, 100, 5000} {
				a, b := mixed(n, below, uint64(n)), mixed(m, below, uint64(m+below))
				hold(t, a, b)
				hold(t, b, a)
				ends := mixed(70, below, 5)
				hold(t, slices.Concat(ends, a, ends), slices.Concat(ends, b, ends))
			}
		}
	}
	for n := range 200 {
		hold(t, counted(0, n), counted(n/2, n+n/2))
		hold(t, counted(n/3, n), counted(0, n))
	}
}

// P4.1: edits here and there in one list, as documents have them.
func TestEditedLists(t *testing.T) {
	for seed := range 200 {
		b := mixed(150, 40, uint64(seed))
		a := slices.Clone(b)
		for k, at := range mixed(2*(seed%9)+2, 140, uint64(seed+1)) {
			switch k % 3 {
			case 0:
				a = slices.Insert(a, at, 1000+k, b[at], b[at])
			case 1:
				a = slices.Delete(a, at, at+2)
			default:
				a[at] = b[149-at]
			}
		}
		hold(t, a, b)
		hold(t, b, a)
	}
}

// subsequences are all lists of numbers that stand in a list in order, each once.
func subsequences(l []int) [][]int {
	some := [][]int{nil}
	for _, x := range l {
		for _, s := range slices.Clone(some) {
			some = append(some, append(slices.Clone(s), x))
		}
	}
	return some
}

// standsIn tells whether numbers stand in a list in order.
func standsIn(s, l []int) bool {
	for _, x := range l {
		if len(s) > 0 && s[0] == x {
			s = s[1:]
		}
	}
	return len(s) == 0
}

// P4.3: as many pairs as Length says, rising, of the same numbers; and no choice that has more.
func TestNoChoiceHasMore(t *testing.T) {
	some := shortLists(3, 5)
	for _, a := range some {
		choices := subsequences(a)
		for _, b := range some {
			most := 0
			for _, s := range choices {
				if len(s) > most && standsIn(s, b) {
					most = len(s)
				}
			}
			l := Pairs(a, b)
			if n := Length(a, b); n != most || len(l) != most {
				t.Fatalf("%v, %v: Length %d, pairs %v, at most %d", a, b, n, l, most)
			}
			for k, p := range l {
				if a[p.A] != b[p.B] || k > 0 && (p.A <= l[k-1].A || p.B <= l[k-1].B) {
					t.Fatalf("Pairs(%v, %v): %v", a, b, l)
				}
			}
			if Length(b, a) != most || Dice(b, a) != Dice(a, b) {
				t.Fatalf("%v, %v: exchanged, Length %d, Dice %d", a, b, Length(b, a), Dice(b, a))
			}
		}
	}
}

// P4.3: a list has all in common with itself.
func TestSameList(t *testing.T) {
	for _, n := range []int{0, 1, 2, 63, 64, 65, 1000, 1 << 20} {
		for _, below := range []int{1, 2, 1 << 30} {
			a := mixed(n, below, 3)
			for _, b := range [][]int{a, slices.Clone(a)} {
				l := Pairs(a, b)
				if Length(a, b) != n || Dice(a, b) != 1000 || len(l) != n {
					t.Fatalf("of %d: Length %d, Dice %d, %d pairs", n, Length(a, b), Dice(a, b), len(l))
				}
				for k, p := range l {
					if p != (Pair{k, k}) {
						t.Fatalf("pair %d of %d: %v", k, n, p)
					}
				}
			}
		}
	}
}

// P4.1: the same pairs come, whether the table is kept whole or part by part.
func TestTableInParts(t *testing.T) {
	var lists [][]int
	for _, n := range []int{0, 1, 2, 3, 4, 5, 8, 15, 16, 17, 64, 65, 150, 256} {
		lists = append(lists, mixed(n, 2, uint64(n)), mixed(n, 30, uint64(n)), counted(n/2, n+n/2))
	}
	for _, a := range lists {
		for _, b := range lists {
			want := pairsByWords(a, b)
			for _, whole := range []int{0, 1, 20, 40, 100, wholeWords} {
				if l := slices.Collect(common(a, b, whole)); !slices.Equal(l, want) {
					t.Fatalf("of %v, %v, %d words kept: %v, not %v", a, b, whole, l, want)
				}
			}
		}
	}
}

// The iterator stops when it is told to.
func TestStopped(t *testing.T) {
	a, b := []int{1, 2, 8, 3, 4}, []int{1, 9, 2, 3, 4}
	want := pairsByWords(a, b)
	for n := range want {
		var l []Pair
		for p := range common(a, b, wholeWords) {
			if l = append(l, p); len(l) > n {
				break
			}
		}
		if !slices.Equal(l, want[:n+1]) {
			t.Errorf("stopped at %d: %v", n, l)
		}
	}
}

// R3: the lists stay as they are, none behind them is read, and no two answers share memory.
func TestListsStay(t *testing.T) {
	all := []int{4, 1, 2, 3, 2, 3, 1, 9, 9}
	was := slices.Clone(all)
	a, b := all[1:4], all[4:7]
	first := Pairs(a, b)
	if Length(a, b) != 2 || Dice(a, b) != 666 || !slices.Equal(all, was) {
		t.Errorf("lists of %v, that were of %v", all, was)
	}
	second := Pairs(a, b)
	first[0] = Pair{7, 7}
	_ = append(first[:1], Pair{8, 8})
	if !slices.Equal(second, []Pair{{1, 0}, {2, 1}}) || !slices.Equal(Pairs(a, b), second) {
		t.Errorf("pairs share memory: %v", second)
	}
	if l := Pairs(all[7:8], all[:7]); len(l) != 0 {
		t.Errorf("read behind a list: %v", l)
	}
	if l := Pairs(all[:6], all[1:]); !slices.Equal(l, pairsByWords(was[:6], was[1:])) || !slices.Equal(all, was) {
		t.Errorf("of lists that overlap: %v", l)
	}
}

// R1: lists whose table has 2^36 places are told all the same.
func TestGreatLists(t *testing.T) {
	const n, turned = 1 << 18, 1000
	a := counted(0, n)
	b := slices.Concat(counted(turned, n), counted(0, turned))
	l := Pairs(a, b)
	if Length(a, b) != n-turned || len(l) != n-turned || Dice(a, b) != 996 {
		t.Fatalf("turned: Length %d, Dice %d, %d pairs", Length(a, b), Dice(a, b), len(l))
	}
	for k, p := range l {
		if p != (Pair{turned + k, k}) {
			t.Fatalf("turned: pair %d: %v", k, p)
		}
	}
	if unlike := counted(n, 2*n); Length(a, unlike) != 0 || len(Pairs(a, unlike)) != 0 || Dice(a, unlike) != 0 {
		t.Error("unlike lists have some in common")
	}
}

// R1: of lists of few numbers the table is great, and nearly each of its words changes from column to column.
func TestGreatListsOfFewNumbers(t *testing.T) {
	const n = 1 << 15
	a := mixed(n, 2, 1)
	b := slices.Concat([]int{5}, a[:n/2], []int{6, 7}, a[n/2+1:], []int{8})
	l := Pairs(a, b)
	if Length(a, b) != n-1 || len(l) != n-1 {
		t.Fatalf("Length %d, %d pairs", Length(a, b), len(l))
	}
	for k, p := range l {
		if a[p.A] != b[p.B] || k > 0 && (p.A <= l[k-1].A || p.B <= l[k-1].B) {
			t.Fatalf("pair %d: %v, behind %v", k, p, l[max(k-1, 0)])
		}
	}
}
