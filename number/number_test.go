package number

import (
	"math"
	"math/rand/v2"
	"slices"
	"strings"
	"testing"

	"emendation/api"
	"emendation/parse"
)

// text, code, emph and link are spans of a kind each.
func text(s string) api.Span         { return api.Span{Kind: api.Text, S: s} }
func code(s string) api.Span         { return api.Span{Kind: api.Code, S: s} }
func emph(kids ...api.Span) api.Span { return api.Span{Kind: api.Emph, Kids: kids} }
func link(to string, kids ...api.Span) api.Span {
	return api.Span{Kind: api.Link, S: to, Kids: kids}
}

// para, heading, fence, quote, list, item and def are blocks of a kind each; rule is one, too.
func para(l ...api.Span) api.Block { return api.Block{Kind: api.Para, Spans: l} }
func heading(level int, l ...api.Span) api.Block {
	return api.Block{Kind: api.Heading, Level: level, Spans: l}
}
func fence(info string, l ...string) api.Block {
	return api.Block{Kind: api.Fence, Info: info, Lines: l}
}
func quote(kids ...api.Block) api.Block { return api.Block{Kind: api.Quote, Kids: kids} }
func list(kids ...api.Block) api.Block  { return api.Block{Kind: api.List, Kids: kids} }
func item(kids ...api.Block) api.Block  { return api.Block{Kind: api.Item, Kids: kids} }
func def(label string, to ...string) api.Block {
	return api.Block{Kind: api.Def, Info: label, Lines: to}
}

var rule = api.Block{Kind: api.Rule}

// word is a Para of a Text alone.
func word(s string) api.Block { return para(text(s)) }

// blocks is a list of blocks.
func blocks(l ...api.Block) []api.Block { return l }

// P15.1: keys, as the chapter names them.
func TestKey(t *testing.T) {
	for _, c := range []struct {
		b    api.Block
		want string
	}{
		{rule, "3;0;0:0;0;0;"},
		{api.Block{}, "0;0;0:0;0;0;"},
		{word("a"), "1;0;0:0;1;1;1:a0;0;"},
		{para(text("a "), code("b")), "1;0;0:0;2;1;2:a 0;2;1:b0;0;"},
		{para(emph(text("a"), code("`"))), "1;0;0:0;1;3;0:2;1;1:a0;2;1:`0;0;"},
		{para(link("x/y", text("é"))), "1;0;0:0;1;4;3:x/y1;1;2:é0;0;"},
		{heading(6, text("12")), "2;6;0:0;1;1;2:120;0;"},
		{fence("", "", "a;b:c", "0:"), "4;0;0:3;0:5:a;b:c2:0:0;0;"},
		{fence("go x"), "4;0;4:go x0;0;0;"},
		{quote(), "5;0;0:0;0;0;"},
		{quote(rule, quote(rule)), "5;0;0:0;0;2;3;0;0:0;0;0;5;0;0:0;0;1;3;0;0:0;0;0;"},
		{list(item(), item(word("a"))), "6;0;0:0;0;2;7;0;0:0;0;0;7;0;0:0;0;1;1;0;0:0;1;1;1:a0;0;"},
		{def("a b", "c#d"), "8;0;3:a b1;3:c#d0;0;"},
		{def("a"), "8;0;1:a0;0;0;"},
		{def("", "a", "b"), "8;0;0:2;1:a1:b0;0;"},
		{fence("", strings.Repeat("a", 10)), "4;0;0:1;10:aaaaaaaaaa0;0;"},
		{quote(slices.Repeat(blocks(rule), 10)...), "5;0;0:0;0;10;" + strings.Repeat("3;0;0:0;0;0;", 10)},
	} {
		if key := holdKey(t, c.b); key != c.want {
			t.Errorf("Key(%+v): %q, not %q", c.b, key, c.want)
		}
	}
}

// P15.1: numbers of any size, below 0, too, and bytes that are no text; what a kind doesn't use stands in the key, too.
func TestKeyOfOddBlocks(t *testing.T) {
	for _, c := range []struct {
		b    api.Block
		want string
	}{
		{api.Block{Kind: -1, Level: -12}, "-1;-12;0:0;0;0;"},
		{api.Block{Kind: math.MinInt, Level: math.MaxInt}, "-9223372036854775808;9223372036854775807;0:0;0;0;"},
		{para(api.Span{Kind: -3, S: "-"}), "1;0;0:0;1;-3;1:-0;0;"},
		{para(api.Span{Kind: math.MinInt}), "1;0;0:0;1;-9223372036854775808;0:0;0;"},
		{para(api.Span{}), "1;0;0:0;1;0;0:0;0;"},
		{api.Block{Kind: api.Rule, Level: 1, Info: "i", Lines: []string{"l"}, Spans: []api.Span{text("s")}, Kids: blocks(rule)}, "3;1;1:i1;1:l1;1;1:s0;1;3;0;0:0;0;0;"},
		{para(api.Span{Kind: api.Text, S: "a", Kids: []api.Span{emph()}}), "1;0;0:0;1;1;1:a1;3;0:0;0;"},
		{item(item(list())), "7;0;0:0;0;1;7;0;0:0;0;1;6;0;0:0;0;0;"},
		{fence("\xff\x00", "\n", "\xc3"), "4;0;2:\xff\x002;1:\n1:\xc30;0;"},
		{api.Block{Kind: 3, Lines: []string{}, Spans: []api.Span{}, Kids: blocks()}, "3;0;0:0;0;0;"},
	} {
		if key := holdKey(t, c.b); key != c.want {
			t.Errorf("Key(%+v): %q, not %q", c.b, key, c.want)
		}
	}
}

// P15.1: numbers as layer 3 has them of the keys: byte by byte, in all lists.
func TestIds(t *testing.T) {
	for _, c := range []struct {
		lists [][]api.Block
		want  [][]int
	}{
		{nil, nil},
		{[][]api.Block{}, nil},
		{[][]api.Block{nil}, [][]int{{}}},
		{[][]api.Block{{}, nil, {}}, [][]int{{}, {}, {}}},
		{[][]api.Block{{rule}}, [][]int{{0}}},
		{[][]api.Block{{rule, rule}, {}, {rule}}, [][]int{{0, 0}, {}, {0}}},
		{[][]api.Block{{word("b"), word("a")}, {word("c"), word("a")}}, [][]int{{1, 0}, {2, 0}}},
		{[][]api.Block{{word("c"), word("a")}, {word("b"), word("a")}}, [][]int{{2, 0}, {1, 0}}},
		{[][]api.Block{{quote(), rule, word("z")}, {heading(1), rule}}, [][]int{{3, 2, 0}, {1, 2}}},
		{[][]api.Block{{{Kind: 10}, {Kind: 1}, {Kind: -1}, {Kind: 9}}}, [][]int{{1, 2, 0, 3}}},
		{[][]api.Block{{word("a"), word("aa"), word("aaaaaaaaaa")}}, [][]int{{1, 2, 0}}},
		{[][]api.Block{{quote(rule)}, {rule}, {quote(rule)}}, [][]int{{1}, {0}, {1}}},
		{[][]api.Block{{fence("", "a", "b")}, {fence("", "b", "a")}, {fence("a", "b")}, {def("a", "b")}}, [][]int{{0}, {1}, {2}, {3}}},
		{[][]api.Block{{heading(2, text("a"))}, {heading(1, text("a"))}, {para(text("a"))}}, [][]int{{2}, {1}, {0}}},
		{[][]api.Block{{para(text("a"))}, {para(code("a"))}, {para(emph(text("a")))}}, [][]int{{0}, {1}, {2}}},
	} {
		if ids := Ids(c.lists...); !slices.EqualFunc(ids, c.want, slices.Equal) {
			t.Errorf("Ids(%+v): %v, not %v", c.lists, ids, c.want)
		}
		if want := idsByWords(c.lists); !slices.EqualFunc(c.want, want, slices.Equal) {
			t.Errorf("of %+v the chapter's words have %v, not %v", c.lists, want, c.want)
		}
	}
}

// P15.2: how alike two blocks are.
func TestAlike(t *testing.T) {
	for _, c := range []struct {
		a, b api.Block
		want int
	}{
		{rule, rule, 1000},
		{api.Block{}, api.Block{}, 1000},
		{quote(), quote(), 1000},
		{word("a b"), word("a b"), 1000},
		{api.Block{Kind: 99, Info: "a"}, api.Block{Kind: 99, Info: "a"}, 1000},

		{rule, quote(), 0},
		{word("a"), heading(1, text("a")), 0},
		{fence("a", "b"), def("a", "b"), 0},
		{list(rule), item(rule), 0},
		{api.Block{Kind: 1}, api.Block{Kind: -1}, 0},

		{word("a b c"), word("a b d"), 800},
		{word("a b c"), word("c"), 333},
		{word("a"), word("b"), 0},
		{word("a b"), word("b a"), 333},
		{word("ab"), word("a"), 0},
		{word("a"), para(), 0},
		{word("a*b"), word("a-b"), 666},
		{word("a  b"), word("a b"), 666},
		{word("a"), para(emph(text("a"))), 999},
		{para(text("a"), code("b")), word("ab"), 999},
		{para(text("a "), link("x", text("b"))), para(text("a "), link("y", text("b"))), 999},
		{para(text("a"), code(" "), emph(text("b"))), word("a c"), 666},
		{para(), para(emph()), 999},

		{heading(1, text("a b c")), heading(2, text("a b c")), 999},
		{heading(1, text("a b c")), heading(2, text("a b d")), 800},
		{heading(1, text("a")), heading(1, text("b")), 0},

		{fence("", "a", "b"), fence("", "a", "c"), 500},
		{fence("a", "b"), fence("c", "b"), 999},
		{fence("a"), fence("b"), 999},
		{fence("a", "b"), fence("a"), 0},
		{fence("", "a b"), fence("", "a c"), 0},
		{fence("", "a", "b", "c"), fence("", "c", "a", "b"), 666},
		{fence("", ""), fence("", "", ""), 666},

		{quote(rule), quote(), 0},
		{quote(rule, word("a")), quote(word("a")), 666},
		{quote(word("a b")), quote(word("a c")), 0},
		{quote(quote(rule)), quote(rule), 0},
		{list(item(), item(rule)), list(item(rule), item()), 500},
		{list(item(rule)), list(item(rule), item(rule)), 666},
		{item(rule, word("a"), quote()), item(rule, word("b"), quote()), 666},

		{def("a", "b"), def("a", "c"), 500},
		{def("a", "b"), def("c", "b"), 500},
		{def("a", "b"), def("b", "a"), 500},
		{def("a", "b"), def("c", "d"), 0},
		{def("a", "b"), def("A", "b"), 500},
		{def("a"), def("a", "b"), 666},
		{def("a"), def("b"), 0},
		{def("", "a"), def("a"), 666},
		{def("a", "b", "c"), def("d", "a", "b"), 666},
		{def("a", "b", "c"), def("b", "c", "d"), 666},

		{rule, api.Block{Kind: api.Rule, Level: 1}, 999},
		{rule, api.Block{Kind: api.Rule, Kids: blocks(rule)}, 999},
		{api.Block{Kind: 9, Info: "a"}, api.Block{Kind: 9, Lines: []string{"b"}}, 999},
		{api.Block{Kind: -1, Spans: []api.Span{text("a")}}, api.Block{Kind: -1, Spans: []api.Span{text("b")}}, 999},
		{api.Block{Kind: api.Para, Lines: []string{"a"}}, para(), 999},
		{api.Block{Kind: api.Quote, Info: "a", Kids: blocks(rule)}, quote(rule), 999},
		{api.Block{Kind: api.Def, Level: 1, Info: "a"}, def("a"), 999},
		{api.Block{Kind: api.Para, Spans: []api.Span{{Kind: 9, S: "a"}}}, api.Block{Kind: api.Para, Spans: []api.Span{{Kind: 9, S: "b"}}}, 999},
	} {
		if n := Alike(c.a, c.b); n != c.want {
			t.Errorf("Alike(%+v, %+v): %d, not %d", c.a, c.b, n, c.want)
		}
		holdAlike(t, c.a, c.b)
	}
}

// P15.2: a thousandth below the same is the most, however little is unlike.
func TestNearlyAlike(t *testing.T) {
	long := strings.Repeat("a ", 5000)
	for _, c := range []struct {
		n    int
		want int
	}{{1, 0}, {2, 500}, {3, 666}, {999, 998}, {1000, 999}, {1001, 999}, {5000, 999}} {
		lines := slices.Repeat([]string{"x"}, c.n)
		other := slices.Clone(lines)
		other[c.n/2] = "y"
		if n := Alike(fence("", lines...), fence("", other...)); n != c.want {
			t.Errorf("of %d lines one is unlike: %d, not %d", c.n, n, c.want)
		}
	}
	if n := Alike(word(long+"b"), word(long+"c")); n != 999 {
		t.Errorf("of 10001 tokens one is unlike: %d", n)
	}
}

// listsUpTo are all lists of at most n of some.
func listsUpTo[T any](n int, of []T) [][]T {
	out := [][]T{nil}
	for from := 0; from < len(out); from++ {
		for _, x := range of {
			if len(out[from]) < n {
				out = append(out, append(slices.Clip(out[from]), x))
			}
		}
	}
	return out
}

// smallBlocks are blocks that no two are the same of, each field with little in it, texts that look like a key's parts, too.
func smallBlocks() []api.Block {
	spans := listsUpTo(2, []api.Span{text(""), text("a"), code("a"), emph(text("a")), emph(text("a"), text(""))})
	texts := listsUpTo(2, []string{"", "a", "0;", "1:"})
	var out []api.Block
	for _, kind := range []int{-1, 0, api.Para, api.Fence, 11} {
		for _, level := range []int{-1, 0, 1, 10} {
			for _, info := range []string{"", "a", "0:"} {
				for _, l := range texts[:9] {
					out = append(out, api.Block{Kind: kind, Level: level, Info: info, Lines: l})
				}
				for _, l := range spans[1:] {
					out = append(out, api.Block{Kind: kind, Level: level, Info: info, Spans: l})
				}
			}
		}
	}
	for _, kids := range listsUpTo(2, blocks(rule, quote(), quote(rule), word("a"), fence("", "a")))[1:] {
		out = append(out, quote(kids...), list(kids...), item(kids...), api.Block{Kind: api.Def, Info: "a", Kids: kids})
	}
	return out
}

// P15.1, P15.2, P15.3: small blocks, two by two: keys and numbers are the same just if they are.
func TestSmallBlocks(t *testing.T) {
	all := smallBlocks()
	ids := Ids(all)[0]
	if !slices.Equal(ids, idsByWords([][]api.Block{all})[0]) {
		t.Fatal("numbers that the chapter's words don't have")
	}
	var known []string
	for i, a := range all {
		key := holdKey(t, a)
		known = append(known, key)
		for j, b := range all[:i+1] {
			if same(a, b) != (i == j) || (known[j] == key) != (i == j) || (ids[i] == ids[j]) != (i == j) {
				t.Fatalf("of %+v and %+v: keys %q, %q, numbers %d, %d", a, b, key, known[j], ids[i], ids[j])
			}
		}
	}
	r := rand.New(rand.NewPCG(15, 1))
	for range 50000 {
		holdAlike(t, all[r.IntN(len(all))], all[r.IntN(len(all))])
	}
}

// mixed are some blocks, of any kind, with anything in them.
func mixed(r *rand.Rand, room int) []api.Block {
	out := make([]api.Block, r.IntN(4))
	for i := range out {
		out[i] = mixedBlock(r, room)
	}
	return out
}

// mixedBlock is such a block.
func mixedBlock(r *rand.Rand, room int) api.Block {
	b := api.Block{Kind: 1 + r.IntN(8)}
	if r.IntN(9) == 0 {
		b.Kind = []int{-10, -1, 0, 9, 10, math.MinInt}[r.IntN(6)]
	}
	if r.IntN(3) == 0 {
		b.Level = r.IntN(15) - 3
	}
	for r.IntN(2) == 0 {
		b.Lines = append(b.Lines, mixedText(r))
	}
	if r.IntN(3) == 0 {
		b.Info = mixedText(r)
	}
	b.Spans = mixedSpans(r, 2)
	if room > 0 {
		b.Kids = mixed(r, room-1)
	}
	return b
}

// mixedSpans are some spans, likewise.
func mixedSpans(r *rand.Rand, room int) []api.Span {
	out := make([]api.Span, r.IntN(3))
	for i := range out {
		out[i] = api.Span{Kind: r.IntN(6), S: mixedText(r)}
		if room > 0 {
			out[i].Kids = mixedSpans(r, room-1)
		}
	}
	return out
}

// mixedText is a short text of few bytes, those that part a key's parts, too.
func mixedText(r *rand.Rand) string {
	out := make([]byte, r.IntN(5))
	for i := range out {
		out[i] = "ab 0;:1-\n\xff"[r.IntN(10)]
	}
	return string(out)
}

// changed is a block with one thing in it that is another.
func changed(r *rand.Rand, b api.Block) api.Block {
	if n := len(b.Kids); n > 0 && r.IntN(2) == 0 {
		b.Kids = slices.Clone(b.Kids)
		at := r.IntN(n)
		b.Kids[at] = changed(r, b.Kids[at])
		return b
	}
	switch r.IntN(6) {
	case 0:
		b.Level++
	case 1:
		b.Info += "a"
	case 2:
		b.Lines = append(slices.Clone(b.Lines), "a")
	case 3:
		b.Spans = append(slices.Clone(b.Spans), text("a"))
	case 4:
		b.Kids = append(slices.Clone(b.Kids), rule)
	case 5:
		b.Spans = slices.Clone(b.Spans)
		for i := range b.Spans {
			b.Spans[i].S += "a"
		}
	}
	return b
}

// P15.1 to P15.3: mixed blocks, and such as are nearly the same.
func TestMixedBlocks(t *testing.T) {
	r := rand.New(rand.NewPCG(15, 2))
	for range 2000 {
		a, b := mixedBlock(r, 2), mixedBlock(r, 2)
		b.Kind = a.Kind
		near := changed(r, a)
		for _, x := range blocks(a, b, near) {
			holdKey(t, x)
			for _, y := range blocks(a, b, near) {
				holdAlike(t, x, y)
				if (Key(x) == Key(y)) != same(x, y) {
					t.Fatalf("of %+v and %+v: keys %q, %q", x, y, Key(x), Key(y))
				}
			}
		}
		lists := [][]api.Block{mixed(r, 1), {a, b, near, a}, a.Kids, near.Kids}
		if ids, want := Ids(lists...), idsByWords(lists); !slices.EqualFunc(ids, want, slices.Equal) {
			t.Fatalf("Ids(%+v): %v, not %v", lists, ids, want)
		}
	}
}

// P15.3: what is read twice has the same keys; a word more, another one.
func TestReadBlocks(t *testing.T) {
	const s = "# a\n\nb *c* `d`\n[e](f)\n\n- g\n\n  > h\n- i\n\n---\n\n```go\nj\n```\n\n[k]: l\n"
	a, _ := parse.Document(s)
	b, _ := parse.Document(s)
	c, _ := parse.Document(strings.Replace(s, "h\n", "h h\n", 1))
	ids := Ids(a, b, c)
	if len(a) != 6 || !slices.Equal(ids[0], ids[1]) {
		t.Fatalf("%d blocks: %v", len(a), ids)
	}
	for i := range a {
		if same := i != 2; (ids[0][i] == ids[2][i]) != same || (Key(a[i]) == Key(c[i])) != same || (Alike(a[i], c[i]) == 1000) != same {
			t.Errorf("block %d: %v", i, ids)
		}
	}
	if n := Alike(a[2], c[2]); n != 500 {
		t.Errorf("of two Items one is the same: %d", n)
	}
}

// nested is a block in so many others, one in the other, and a span in as many.
func nested(n int, kind int, s string) api.Block {
	l := []api.Span{text(s)}
	for range n {
		l = []api.Span{emph(l...)}
	}
	b := para(l...)
	for range n {
		b = api.Block{Kind: kind, Kids: blocks(b)}
	}
	return b
}

// R1: blocks as great as they may be.
func TestGreat(t *testing.T) {
	const n = 1 << 16
	a, b := nested(n, api.Quote, "a"), nested(n, api.Quote, "b")
	key := Key(a)
	if want := strings.Repeat("5;0;0:0;0;1;", n) + "1;0;0:0;1;" + strings.Repeat("3;0:1;", n) + "1;1:a0;0;"; key != want {
		t.Errorf("%d parts in one another: a key of %d bytes", n, len(key))
	}
	if ids := Ids(blocks(a, b), blocks(b, a)); !slices.EqualFunc(ids, [][]int{{0, 1}, {1, 0}}, slices.Equal) {
		t.Errorf("%d parts in one another: %v", n, ids)
	}
	if x, y, z := Alike(a, a), Alike(a, b), Alike(a.Kids[0], a); x != 1000 || y != 0 || z != 0 {
		t.Errorf("%d parts in one another: %d, %d, %d", n, x, y, z)
	}
	long := strings.Repeat("ab ", api.MaxText/3)
	if n := Alike(word(long), word(long+"c")); n != 999 {
		t.Errorf("a long text: %d", n)
	}
	if n := Alike(word(long), word(long[:len(long)/2])); n < 665 || n > 667 {
		t.Errorf("a long text, and half of it: %d", n)
	}
	if key := Key(word(long)); key != "1;0;0:0;1;1;1048575:"+long+"0;0;" {
		t.Errorf("a long text: a key of %d bytes", len(key))
	}
	wide := slices.Repeat(blocks(word("a"), word("b")), 50000)
	ids := Ids(wide, wide[1:])
	for i, id := range ids[0] {
		if id != i%2 || i > 0 && ids[1][i-1] != id {
			t.Fatalf("block %d of many: %d", i, id)
		}
	}
	if n := Alike(quote(wide...), quote(wide[1:]...)); n != 999 {
		t.Errorf("many Kids, and one less: %d", n)
	}
}

// R3: arguments stay as they are, and so does what lies behind them; R6: a call tells nothing of the one ahead.
func TestArgumentsStay(t *testing.T) {
	made := func() []api.Block {
		lines := []string{"x", "y", "behind"}[:2]
		spans := []api.Span{emph([]api.Span{text("a b"), text("behind")}[:1]...), text("behind")}[:1]
		kids := []api.Block{word("k"), word("l"), word("behind")}[:2]
		return []api.Block{
			{Kind: api.Fence, Info: "i", Lines: lines},
			{Kind: api.Def, Info: "i", Lines: lines},
			{Kind: api.Para, Spans: spans},
			{Kind: api.Quote, Kids: kids},
			{Kind: api.Item, Kids: kids[:1]},
			word("behind"),
		}[:5]
	}
	l, was := made(), made()
	var first []int
	for range 2 {
		ids := Ids(l, l[1:3])
		for i, a := range l {
			Key(a)
			for _, b := range l[i:] {
				Alike(a, b)
				Alike(b, changed(rand.New(rand.NewPCG(15, uint64(i))), b))
			}
		}
		if !slices.EqualFunc(l[:cap(l)], was[:cap(was)], sameWithRoom) {
			t.Fatalf("%+v was %+v", l[:cap(l)], was[:cap(was)])
		}
		if first != nil && !slices.Equal(first, ids[0]) {
			t.Errorf("numbers %v, then %v", first, ids[0])
		}
		first = slices.Clone(ids[0])
		ids[0][0] = 99
		ids[0] = append(ids[0], 98)
		if want := first[1:3]; !slices.Equal(ids[1], want) {
			t.Errorf("the lists share their memory: %v, not %v", ids[1], want)
		}
	}
	lists := [][]api.Block{l[:2], l[2:4], blocks(rule)}
	Ids(lists[:2]...)
	if len(lists[2]) != 1 || len(lists[0]) != 2 || len(lists[1]) != 2 {
		t.Error("the list of lists is another")
	}
}

// sameWithRoom tells whether two blocks are the same, with what lies behind their lists.
func sameWithRoom(a, b api.Block) bool {
	return a.Kind == b.Kind && a.Level == b.Level && a.Info == b.Info &&
		len(a.Lines) == len(b.Lines) && slices.Equal(a.Lines[:cap(a.Lines)], b.Lines[:cap(b.Lines)]) &&
		len(a.Spans) == len(b.Spans) && slices.EqualFunc(a.Spans[:cap(a.Spans)], b.Spans[:cap(b.Spans)], spansWithRoom) &&
		len(a.Kids) == len(b.Kids) && slices.EqualFunc(a.Kids[:cap(a.Kids)], b.Kids[:cap(b.Kids)], sameWithRoom)
}

// spansWithRoom tells it of two spans.
func spansWithRoom(a, b api.Span) bool {
	return a.Kind == b.Kind && a.S == b.S && len(a.Kids) == len(b.Kids) &&
		slices.EqualFunc(a.Kids[:cap(a.Kids)], b.Kids[:cap(b.Kids)], spansWithRoom)
}
