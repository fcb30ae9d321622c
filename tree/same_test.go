package tree

import (
	"math"
	"math/rand/v2"
	"slices"
	"strings"
	"testing"

	"emendation/api"
)

// P10.1: whether both have the same blocks in the same order; R4: empty lists are alike, nil or not.
func TestSame(t *testing.T) {
	for _, c := range []struct {
		a, b []api.Block
		want bool
	}{
		{nil, nil, true},
		{nil, list(), true},
		{nil, list(api.Block{}), false},
		{list(rule), list(rule), true},
		{list(rule), list(rule, rule), false},
		{list(rule, quote()), list(quote(), rule), false},
		{list(rule), list(quote()), false},
		{list(quote()), list(item()), false},
		{list(api.Block{Kind: -1}), list(api.Block{Kind: 1}), false},
		{list(api.Block{Kind: 1 << 32}), list(api.Block{}), false},
		{list(api.Block{Kind: 99, Info: "\xff"}), list(api.Block{Kind: 99, Info: "\xff"}), true},
		{list(heading(1)), list(heading(2)), false},
		{list(heading(1, text("a"))), list(heading(2, text("a"))), false},
		{list(heading(1 << 32)), list(heading(0)), false},
		{list(heading(math.MinInt)), list(heading(math.MinInt)), true},
		{list(para(text("a"))), list(para(text("a"))), true},
		{list(para(text("a"))), list(para(text("b"))), false},
		{list(para(text("a"))), list(para(codeSpan("a"))), false},
		{list(para(text("a"))), list(para(text("a"), codeSpan("a"))), false},
		{list(para(text("a"))), list(heading(0, text("a"))), false},
		{list(para(emph(text("a")))), list(para(emph(text("b")))), false},
		{list(para(emph(text("a"), codeSpan("b")))), list(para(emph(text("a"), codeSpan("b")))), true},
		{list(para(text("a"), text("b"))), list(para(text("ab"))), false},
		{list(para(text("a")), para(text("b"))), list(para(text("a"), text("b"))), false},
		{list(fence("a", "b")), list(fence("a", "b")), true},
		{list(fence("a", "b")), list(fence("c", "b")), false},
		{list(fence("a", "b")), list(fence("a", "c")), false},
		{list(fence("a", "b")), list(fence("a", "b", "")), false},
		{list(fence("a", "b", "c")), list(fence("a", "c", "b")), false},
		{list(fence("a", "b\nc")), list(fence("a", "b", "c")), false},
		{list(fence("a", "b")), list(fence("b", "a")), false},
		{list(fence("a", "b")), list(def("a", "b")), false},
		{list(fence("", "")), list(fence("")), false},
		{list(def("a", "b")), list(def("A", "b")), false},
		{list(def("a", "b")), list(def("a", "b")), true},
		{list(quote(rule)), list(quote(rule)), true},
		{list(quote(rule)), list(quote(quote())), false},
		{list(quote(rule)), list(quote()), false},
		{list(quote(rule)), list(quote(), rule), false},
		{list(quote(rule, rule)), list(quote(rule), rule), false},
		{list(quote(quote(), rule)), list(quote(quote(rule))), false},
		{list(items(item(rule), item())), list(items(item(), item(rule))), false},
		{list(items(item(para(text("a"))))), list(items(item(para(text("a"))))), true},
		{list(items(item(para(text("a"))))), list(items(item(para(text("b"))))), false},
		{list(items(item(), item(fence("", "a")))), list(items(item(), item(fence("", "b")))), false},
		{list(api.Block{Kind: 1, Lines: []string{}, Spans: []api.Span{}, Kids: list()}), list(api.Block{Kind: 1}), true},
		{list(api.Block{Kind: 1, Lines: []string{""}}), list(api.Block{Kind: 1}), false},
		{list(api.Block{Kind: 1, Spans: []api.Span{{}}}), list(api.Block{Kind: 1}), false},
		{list(api.Block{Kind: 1, Kids: list(api.Block{})}), list(api.Block{Kind: 1}), false},
		{list(api.Block{Kind: api.Rule, Level: 1}), list(rule), false},
		{list(api.Block{Kind: api.Rule, Info: "a"}), list(rule), false},
	} {
		if got := Same(c.a, c.b); got != c.want {
			t.Errorf("Same(%+v, %+v): %v", c.a, c.b, got)
		}
		if got := Same(c.b, c.a); got != c.want {
			t.Errorf("Same(%+v, %+v): %v", c.b, c.a, got)
		}
	}
}

// P10.1: of lists without doubles, two by two, only each one and itself are the same: flat lists, and trees.
func TestSameOfSmallTrees(t *testing.T) {
	flat := blocksOf([]int{0, api.Para, api.Item, 9}, [][]api.Block{nil})
	inner := listsOf(2, list(rule, quote(), item(rule), quote(rule), heading(1), heading(2)))
	for _, lists := range [][][]api.Block{listsOf(2, flat), listsOf(1, blocksOf([]int{api.Quote, api.List}, inner))} {
		for i, a := range lists {
			own := copied(a)
			for j, b := range lists {
				if got := Same(own, b); got != (i == j) {
					t.Fatalf("Same(%+v, %+v): %v", a, b, got)
				}
			}
		}
	}
}

// P10.1: mixed trees are the same as what is copied of them, and not as what is changed anywhere.
func TestSameOfMixedTrees(t *testing.T) {
	r := rand.New(rand.NewPCG(10, 2))
	for range 5000 {
		l := someBlocks(r, 4, false)
		own := copied(l)
		if !Same(l, own) {
			t.Fatalf("%+v isn't the same as what is copied of it", l)
		}
		for _, b := range pointed(own) {
			was := *b
			for _, change := range []func(){
				func() { b.Kind += 100 },
				func() { b.Level-- },
				func() { b.Info += " " },
				func() { b.Lines = append(slices.Clip(b.Lines), "") },
				func() { b.Spans = append(slices.Clip(b.Spans), text("")) },
				func() { b.Kids = append(slices.Clip(b.Kids), api.Block{}) },
			} {
				change()
				if Same(l, own) || Same(own, l) {
					t.Fatalf("%+v is the same as %+v", l, own)
				}
				*b = was
			}
		}
		if !Same(l, own) {
			t.Fatalf("%+v: changed back it isn't the same", l)
		}
	}
}

// pointed are all blocks of a list, those of Kids too, in their places.
func pointed(l []api.Block) []*api.Block {
	var out []*api.Block
	for i := range l {
		out = append(out, &l[i])
		out = append(out, pointed(l[i].Kids)...)
	}
	return out
}

// P10.2: how many containers lie one in the other at most, and how many blocks there are.
func TestDeepAndCount(t *testing.T) {
	for _, c := range []struct {
		l           []api.Block
		deep, count int
	}{
		{nil, 0, 0},
		{list(), 0, 0},
		{list(rule), 0, 1},
		{list(para(emph(emph(text("a")))), heading(1, text("b"))), 0, 2},
		{list(fence("a", "b", "c"), def("a", "b")), 0, 2},
		{list(quote()), 1, 1},
		{list(quote(rule, rule)), 1, 3},
		{list(quote(), quote()), 1, 2},
		{list(items()), 1, 1},
		{list(item()), 1, 1},
		{list(items(item())), 2, 2},
		{list(items(item(rule), item(rule, rule))), 2, 6},
		{list(items(item(items(item())))), 4, 4},
		{list(items(item(quote(rule)))), 3, 4},
		{list(quote(quote(quote())), rule, quote()), 3, 5},
		{list(quote(), rule, quote(quote(quote()))), 3, 5},
		{list(quote(quote(), quote(quote(rule)), quote())), 3, 6},
		{list(api.Block{}), 0, 1},
		{list(api.Block{Kind: 9, Kids: list(quote())}), 1, 2},
		{list(api.Block{Kind: api.Para, Kids: list(quote(rule), quote(item()))}), 2, 5},
		{list(quote(api.Block{Kind: api.Def, Kids: list(items())})), 2, 3},
		{list(items(items(item(item())))), 4, 4},
	} {
		if got := Deep(c.l); got != c.deep {
			t.Errorf("Deep(%+v): %d, not %d", c.l, got, c.deep)
		}
		if got := Count(c.l); got != c.count {
			t.Errorf("Count(%+v): %d, not %d", c.l, got, c.count)
		}
	}
}

// P10.2: a block of each kind, and of numbers that are none, with Kids and without.
func TestDeepAndCountOfKinds(t *testing.T) {
	for _, k := range slices.Concat(kinds, noKinds) {
		own := 0
		if k == api.Quote || k == api.List || k == api.Item {
			own = 1
		}
		for _, c := range []struct {
			kids        []api.Block
			deep, count int
		}{{nil, 0, 0}, {list(), 0, 0}, {list(rule), 0, 1}, {list(quote(), rule), 1, 2}, {list(rule, items(item())), 2, 3}} {
			l := list(api.Block{Kind: k, Kids: c.kids})
			if Deep(l) != own+c.deep || Count(l) != 1+c.count {
				t.Errorf("of the kind %d, with Kids %+v: %d, %d", k, c.kids, Deep(l), Count(l))
			}
		}
	}
}

// P10.2: mixed trees, held against the chapter's words.
func TestDeepAndCountOfMixedTrees(t *testing.T) {
	r := rand.New(rand.NewPCG(10, 4))
	for range 30000 {
		l := someBlocks(r, 5, r.IntN(2) == 0)
		if got, want := Deep(l), deepByWords(l); got != want {
			t.Fatalf("Deep(%+v): %d, not %d", l, got, want)
		}
		if got, want := Count(l), len(all(l, nil)); got != want {
			t.Fatalf("Count(%+v): %d, not %d", l, got, want)
		}
	}
}

// R3: what lies behind a list's length isn't read, and nothing is changed.
func TestListsStay(t *testing.T) {
	whole := list(items(item()), fence("", "a"), items(item()), api.Block{Kind: 99})
	kids := list(item(), item(rule), quote(quote(quote())))
	lines := []string{"a", "\n"}
	spans := []api.Span{text("a"), text("b")}
	whole[0].Kids = kids[:2]
	whole[1].Lines = lines[:1]
	whole[2].Kids[0].Kids = list(para(spans[:1]...), rule, item())[:2]
	was, wasKids, wasLines, wasSpans := copied(whole), copied(kids), slices.Clone(lines), slices.Clone(spans)
	l := whole[:3]
	if !Right(l) || !Right(whole[:0]) || Right(whole) {
		t.Error("Right reads behind a list's end")
	}
	if Deep(l) != 2 || Count(l) != 9 || Deep(whole[:0]) != 0 || Count(whole[:1]) != 4 {
		t.Errorf("Deep or Count reads behind a list's end: %d, %d", Deep(l), Count(l))
	}
	if !Same(l, list(items(item(), item(rule)), fence("", "a"), items(item(para(text("a")), rule)))) || Same(l, whole) || !Same(whole[:0], nil) {
		t.Error("Same reads behind a list's end")
	}
	if !Same(whole, was) || !Same(kids, wasKids) || !slices.Equal(lines, wasLines) || spans[0].S != wasSpans[0].S || spans[1].S != wasSpans[1].S {
		t.Error("a list was changed")
	}
}

// R1, and the document's bound: blocks, and spans, that are deep in one another.
func TestDeepBlocks(t *testing.T) {
	const deep = 1<<16 - 2
	within := func(in api.Block) []api.Block {
		for i := range deep {
			switch i % 3 {
			case 0:
				in = quote(rule, in)
			case 1:
				in = item(in, rule)
			case 2:
				in = api.Block{Kind: -i, Kids: list(in)} // no container
			}
		}
		return list(in)
	}
	l := within(quote())
	if Right(l) {
		t.Error("deep blocks are right")
	}
	if got := Deep(l); got != (deep+2)/3+(deep+1)/3+1 {
		t.Errorf("Deep of deep blocks: %d", got)
	}
	if got := Count(l); got != deep+(deep+2)/3+(deep+1)/3+1 {
		t.Errorf("Count of deep blocks: %d", got)
	}
	if !Same(l, within(quote())) || Same(l, within(quote(rule))) {
		t.Error("Same of deep blocks")
	}
	in := text("a")
	for range deep {
		in = emph(in)
	}
	if Right(list(para(in))) || Right(list(heading(1, in))) || !Same(list(para(in)), list(para(in))) {
		t.Error("a Para of deep spans")
	}
}

// R1: great lists.
func TestGreatLists(t *testing.T) {
	const n = 1 << 18
	l := slices.Repeat(list(rule, items(item(para(text("a"))), item()), fence("b", "c"), quote(heading(1))), n/4)
	if !Right(l) || Deep(l) != 2 || Count(l) != n/4*8 {
		t.Errorf("a great list: %v, %d, %d", Right(l), Deep(l), Count(l))
	}
	own := copied(l)
	if !Same(l, own) {
		t.Error("a great list isn't the same as itself")
	}
	own[n-1].Kids[0].Level = 7
	if Right(own) || Same(l, own) {
		t.Error("a great list with a wrong Heading at its end")
	}
	if !Right(list(fence("", slices.Repeat([]string{strings.Repeat("a", 20)}, n)...))) {
		t.Error("a great Fence isn't right")
	}
}
