package defs

import (
	"math/rand/v2"
	"slices"
	"strconv"
	"strings"
	"testing"

	"emendation/api"
	"emendation/parse"
	"emendation/tree"
	"emendation/write"
)

// def, quote, list, item and word are blocks of a kind each; rule is one, too.
func def(label string, to ...string) api.Block {
	return api.Block{Kind: api.Def, Info: label, Lines: to}
}
func quote(kids ...api.Block) api.Block { return api.Block{Kind: api.Quote, Kids: kids} }
func list(kids ...api.Block) api.Block  { return api.Block{Kind: api.List, Kids: kids} }
func item(kids ...api.Block) api.Block  { return api.Block{Kind: api.Item, Kids: kids} }
func word(s string) api.Block {
	return api.Block{Kind: api.Para, Spans: []api.Span{{Kind: api.Text, S: s}}}
}

var rule = api.Block{Kind: api.Rule}

// blocks is a list of blocks.
func blocks(l ...api.Block) []api.Block { return l }

// entries is a list of entries: a label, where it goes to, and so on.
func entries(l ...string) []Entry {
	var out []Entry
	for pair := range slices.Chunk(l, 2) {
		out = append(out, Entry{pair[0], pair[1]})
	}
	return out
}

// P16.1: what documents define.
func TestOf(t *testing.T) {
	for _, c := range []struct {
		l    []api.Block
		want []Entry
	}{
		{nil, nil},
		{blocks(), nil},
		{blocks(rule, word("a"), quote(), list(item())), nil},
		{blocks(def("a", "b")), entries("a", "b")},

		// folded: letters A to Z alone, and each run of spaces.
		{blocks(def(" Ab  C", "d")), entries("ab c", "d")},
		{blocks(def("É\t\r\nZ\n", "D")), entries("É z", "D")},
		{blocks(def("@[`{", "d")), entries("@[`{", "d")},

		// rising, byte by byte.
		{blocks(def("b", "1"), def("a", "2"), def("c", "3")), entries("a", "2", "b", "1", "c", "3")},
		{blocks(def("ab", "1"), def("a", "2"), def("aa", "3"), def("B", "4")), entries("a", "2", "aa", "3", "ab", "1", "b", "4")},
		{blocks(def("é", "1"), def("z", "2"), def("~", "3"), def("_", "4")), entries("_", "4", "z", "2", "~", "3", "é", "1")},
		{blocks(def("10", "1"), def("9", "2")), entries("10", "1", "9", "2")},
		{blocks(def("\xff", "1"), def("€", "2")), entries("€", "2", "\xff", "1")},

		// the first one of a label alone.
		{blocks(def("a", "1"), def("a", "2")), entries("a", "1")},
		{blocks(def("a", "2"), def("a", "1"), def("a", "3")), entries("a", "2")},
		{blocks(def("A b", "1"), def("b", "2"), def("a  B", "3"), def("B", "4")), entries("a b", "1", "b", "2")},

		// in containers, too, in order.
		{blocks(quote(def("a", "1"))), entries("a", "1")},
		{blocks(list(item(def("b", "1")), item(quote(def("a", "2"))))), entries("a", "2", "b", "1")},
		{blocks(quote(rule, def("a", "1")), def("a", "2")), entries("a", "1")},
		{blocks(def("a", "2"), quote(def("a", "1"))), entries("a", "2")},
		{blocks(list(item(word("w"), quote(def("a", "1"))), item(def("a", "2"))), def("a", "3")), entries("a", "1")},
		{blocks(quote(quote(), def("a", "1")), quote(def("a", "2"), def("b", "3")), def("b", "4")), entries("a", "1", "b", "3")},

		// without Lines to an empty place, which counts, too.
		{blocks(def("a")), entries("a", "")},
		{blocks(def("a"), def("a", "1")), entries("a", "")},
		{blocks(quote(def("A")), def("a", "1")), entries("a", "")},
		{blocks(def("a", ""), def("a", "1")), entries("a", "")},
	} {
		if got := holdOf(t, c.l); !slices.Equal(got, c.want) {
			t.Errorf("Of(%+v): %q, not %q", c.l, got, c.want)
		}
	}
}

// P16.1: blocks that aren't in normal form define by the same words.
func TestOfOddBlocks(t *testing.T) {
	full := func(kind int) api.Block {
		return api.Block{Kind: kind, Level: 1, Info: "i", Lines: []string{"l"}, Spans: []api.Span{{Kind: api.Def, S: "s"}}}
	}
	for kind := -1; kind <= 9; kind++ {
		want := []Entry(nil)
		if kind == api.Def {
			want = entries("i", "l")
		}
		if got := holdOf(t, blocks(full(kind))); !slices.Equal(got, want) {
			t.Errorf("of the kind %d: %q", kind, got)
		}
	}
	for _, c := range []struct {
		l    []api.Block
		want []Entry
	}{
		{blocks(def("", "1")), entries("", "1")},
		{blocks(def(" \t", "1"), def("", "2"), def("a", "3")), entries("", "1", "a", "3")},
		{blocks(def("a", "1", "2")), entries("a", "1")},
		{blocks(def("a", " x\n")), entries("a", " x\n")},
		{blocks(def("a\x00]", "\xff")), entries("a\x00]", "\xff")},
		{blocks(item(def("a", "1")), list(def("b", "2"))), entries("a", "1", "b", "2")},
		{blocks(api.Block{Kind: api.Def, Info: "a", Lines: []string{"1"}, Kids: blocks(def("a", "2"), def("b", "3"))}, def("b", "4")), entries("a", "1", "b", "3")},
	} {
		if got := holdOf(t, c.l); !slices.Equal(got, c.want) {
			t.Errorf("Of(%+v): %q, not %q", c.l, got, c.want)
		}
	}
}

// P16.1: where a label goes to.
func TestFind(t *testing.T) {
	l := entries("b", "1", "a b", "2", "b", "3", "A", "4", "", "5", "empty", "", " c", "6", "é", "7")
	for _, c := range []struct {
		label, to string
		ok        bool
	}{
		{"b", "1", true},
		{"B", "1", true},
		{" \tb\r\n", "1", true},
		{"a b", "2", true},
		{"A  B", "2", true},
		{"a\nb", "2", true},
		{"ab", "", false},
		{"", "5", true},
		{" ", "5", true},
		{"empty", "", true},
		{"Empty", "", true},
		{"é", "7", true},
		{"É", "", false},
		{"x", "", false},

		// what stands there isn't folded: an entry whose Label can't come of folding is never found.
		{"A", "", false},
		{"a", "", false},
		{" c", "", false},
		{"c", "", false},
	} {
		to, ok := Find(l, c.label)
		if to != c.to || ok != c.ok {
			t.Errorf("Find(%q): %q, %v", c.label, to, ok)
		}
		holdFind(t, l, c.label)
		if to, ok := Find(nil, c.label); to != "" || ok {
			t.Errorf("Find of no entries: %q, %v", to, ok)
		}
	}
}

// P16.2: what three lists define together: an example of each outcome, and of their order.
func TestMerge(t *testing.T) {
	for _, c := range []struct {
		base, ours, theirs []Entry
		want               []Entry
		clashes            []string
	}{
		{nil, nil, nil, nil, nil},
		{entries("a", "1"), entries("a", "2"), entries("a", "1", "b", "3"), entries("a", "2", "b", "3"), nil},

		// one side's, both sides' alike.
		{entries("a", "1"), entries("a", "1"), entries("a", "1"), entries("a", "1"), nil},
		{entries("a", "1"), entries("a", "2"), entries("a", "1"), entries("a", "2"), nil},
		{entries("a", "1"), entries("a", "1"), entries("a", "2"), entries("a", "2"), nil},
		{entries("a", "1"), entries("a", "2"), entries("a", "2"), entries("a", "2"), nil},
		{nil, entries("a", "1"), nil, entries("a", "1"), nil},
		{nil, nil, entries("a", "1"), entries("a", "1"), nil},
		{nil, entries("a", "1"), entries("a", "1"), entries("a", "1"), nil},

		// what isn't there any more.
		{entries("a", "1"), nil, entries("a", "1"), nil, nil},
		{entries("a", "1"), entries("a", "1"), nil, nil, nil},
		{entries("a", "1"), nil, nil, nil, nil},

		// clashes.
		{entries("a", "1"), entries("a", "2"), entries("a", "3"), nil, []string{"a"}},
		{nil, entries("a", "2"), entries("a", "3"), nil, []string{"a"}},
		{entries("a", "1"), nil, entries("a", "3"), nil, []string{"a"}},
		{entries("a", "1"), entries("a", "2"), nil, nil, []string{"a"}},

		// an empty place is another one than none.
		{nil, entries("a", ""), nil, entries("a", ""), nil},
		{entries("a", ""), nil, entries("a", ""), nil, nil},
		{entries("a", ""), nil, entries("a", "1"), nil, []string{"a"}},
		{nil, entries("a", ""), entries("a", "1"), nil, []string{"a"}},
		{entries("a", "1"), entries("a", ""), nil, nil, []string{"a"}},
		{entries("a", ""), entries("a", ""), entries("a", "1"), entries("a", "1"), nil},
		{entries("", "1"), entries("", "2"), entries("", "1"), entries("", "2"), nil},

		// the first entry counts.
		{entries("a", "1", "a", "2"), entries("a", "2", "a", "1"), entries("a", "1", "a", "3"), entries("a", "2"), nil},
		{entries("a", "1"), entries("a", "1", "a", "2"), entries("a", "3", "a", "1"), entries("a", "3"), nil},
		{nil, entries("a", "1", "b", "2", "a", "3"), nil, entries("a", "1", "b", "2"), nil},
		{nil, entries("a", "", "a", "3"), nil, entries("a", ""), nil},

		// labels as they stand there.
		{entries("a", "1"), entries("A", "1"), entries(" a", "1"), entries(" a", "1", "A", "1"), nil},
		{entries("A", "1"), entries("A", "2"), entries("a", "1"), entries("a", "1"), []string{"A"}},
		{nil, entries("A  b", "1"), entries("a b", "2"), entries("A  b", "1", "a b", "2"), nil},

		// rising, byte by byte, whatever their order was.
		{nil, entries("b", "1", "é", "2"), entries("~", "3", "a", "4", "B", "5"), entries("B", "5", "a", "4", "b", "1", "~", "3", "é", "2"), nil},
		{entries("z", "1"), entries("c", "1", "b", "1", "a", "1"), entries("a", "2", "z", "3", "b", "1", "c", "2"), entries("b", "1"), []string{"a", "c", "z"}},
		{entries("ab", "1", "a", "1", "\xff", "1"), entries("a", "2", "ab", "2", "\xff", "2"), entries("\xff", "3", "ab", "3", "a", "3"), nil, []string{"a", "ab", "\xff"}},
	} {
		got, clashes := holdMerge(t, c.base, c.ours, c.theirs)
		if !slices.Equal(got, c.want) || !slices.Equal(clashes, c.clashes) {
			t.Errorf("Merge(%q, %q, %q): %q, %q, not %q, %q", c.base, c.ours, c.theirs, got, clashes, c.want, c.clashes)
		}
	}
}

// listsUpTo are all lists of at most n of some.
func listsUpTo[T any](n int, of []T) [][]T {
	out := [][]T{nil}
	for from := 0; from < len(out); from++ {
		for _, x := range of {
			if len(out[from]) < n {
				out = append(out, append(slices.Clip(out[from]), x))
			}
		}
	}
	return out
}

// P16.2, P16.3: all short lists of entries, three by three.
func TestShortLists(t *testing.T) {
	all := listsUpTo(2, entries("a", "", "a", "1", "a", "2", "A", "1", "A", "2", "", "1"))
	for _, base := range all {
		for i, ours := range all {
			for _, theirs := range all[:i+1] {
				holdMerge(t, base, ours, theirs)
			}
			holdOneSided(t, base, ours)
		}
	}
}

// holdOneSided holds that with one side the base's the other side's comes, first entries in order.
func holdOneSided(t *testing.T, base, side []Entry) {
	t.Helper()
	var want []Entry
	for _, label := range labelsByWords(side) {
		want = append(want, Entry{label, firstByWords(side, label)[0]})
	}
	for _, pair := range [][2][]Entry{{side, base}, {base, side}, {side, side}} {
		got, clashes := Merge(base, pair[0], pair[1])
		if !slices.Equal(got, want) || len(clashes) > 0 {
			t.Fatalf("Merge(%q, %q, %q): %q, %q, not %q", base, pair[0], pair[1], got, clashes, want)
		}
	}
}

// P16.1: all small documents of few Defs.
func TestSmallDocuments(t *testing.T) {
	few := blocks(def("a", "1"), def("A", "2"), def("b", "3"), def("B"), rule)
	for _, kids := range listsUpTo(2, few) {
		for _, l := range listsUpTo(2, append(slices.Clone(few), quote(kids...), list(item(kids...)))) {
			holdOf(t, l)
		}
	}
}

// mixed are some blocks, Defs among them, with anything in them.
func mixed(r *rand.Rand, room int) []api.Block {
	out := make([]api.Block, r.IntN(4))
	for i := range out {
		out[i] = def(mixedText(r))
		if r.IntN(3) == 0 {
			out[i].Kind = r.IntN(11) - 1
		}
		for r.IntN(2) == 0 {
			out[i].Lines = append(out[i].Lines, mixedText(r))
		}
		if room > 0 && r.IntN(3) == 0 {
			out[i].Kids = mixed(r, room-1)
		}
	}
	return out
}

// mixedText is a short text of few bytes, those that are folded, too.
func mixedText(r *rand.Rand) string {
	out := make([]byte, r.IntN(4))
	for i := range out {
		out[i] = "aAbB \t\n\r\xff"[r.IntN(9)]
	}
	return string(out)
}

// mixedEntries are some entries, likewise, labels twice among them.
func mixedEntries(r *rand.Rand) []Entry {
	out := make([]Entry, r.IntN(9))
	for i := range out {
		out[i] = Entry{mixedText(r), strconv.Itoa(r.IntN(2))}
	}
	return out
}

// P16.1 to P16.3: mixed blocks and entries.
func TestMixed(t *testing.T) {
	r := rand.New(rand.NewPCG(16, 1))
	for range 30000 {
		base, ours, theirs := holdOf(t, mixed(r, 3)), holdOf(t, mixed(r, 3)), holdOf(t, mixed(r, 3))
		holdMerge(t, base, ours, theirs)
		holdOneSided(t, base, ours)
		base, ours, theirs = mixedEntries(r), mixedEntries(r), mixedEntries(r)
		holdMerge(t, base, ours, theirs)
		holdOneSided(t, base, ours)
		for range 5 {
			holdFind(t, base, mixedText(r))
		}
	}
}

// rightBlocks are some blocks in normal form, Defs among them.
func rightBlocks(r *rand.Rand, room int) []api.Block {
	var out []api.Block
	for range r.IntN(5) {
		next := def([]string{"a", "A", "b  c", "B\tC", "é", "*", "!d"}[r.IntN(7)], []string{"1", "a/b#c", "D"}[r.IntN(3)])
		switch k := r.IntN(8); {
		case k == 0:
			next = word("w")
		case k == 1:
			next = rule
		case k == 2 && room > 0:
			next = quote(rightBlocks(r, room-1)...)
		case k == 3 && room > 1 && (len(out) == 0 || out[len(out)-1].Kind != api.List):
			next = list(item(rightBlocks(r, room-2)...), item(rightBlocks(r, room-2)...))
		}
		out = append(out, next)
	}
	return out
}

// P16.3: documents that were written and read define what they defined.
func TestWrittenAndRead(t *testing.T) {
	r := rand.New(rand.NewPCG(16, 2))
	found := 0
	for range 10000 {
		l := rightBlocks(r, 5)
		if !tree.Right(l) {
			t.Fatalf("%+v isn't in normal form", l)
		}
		s, e := write.Document(l)
		if e != api.OK {
			t.Fatalf("%+v isn't written: %d", l, e)
		}
		back, e := parse.Document(s)
		if e != api.OK {
			t.Fatalf("%q isn't read: %d", s, e)
		}
		want := holdOf(t, l)
		if got := Of(back); !slices.Equal(got, want) {
			t.Fatalf("%q defines %q, not %q", s, got, want)
		}
		found += len(want)
	}
	if found < 10000 {
		t.Errorf("%d definitions in all", found)
	}
}

// P16.1, P16.3: a document as it stands in a file.
func TestReadDocument(t *testing.T) {
	const s = "[b  B]: x\n\ntext\n\n> [C]: y\n> - [a]: z\n>   [c]: no\n\n```\n[e]: no\n```\n\n- [é]: v\n\n  [b b]: no\n"
	l, e := parse.Document(s)
	want := entries("a", "z", "b b", "x", "c", "y", "é", "v")
	if e != api.OK {
		t.Fatalf("%q isn't read: %d", s, e)
	}
	if got := holdOf(t, l); !slices.Equal(got, want) {
		t.Errorf("%q", got)
	}
	written, _ := write.Document(l)
	again, _ := parse.Document(written)
	if got := Of(again); !slices.Equal(got, Of(l)) {
		t.Errorf("written as %q: %q", written, got)
	}
}

// R1: documents and lists as great as they may be.
func TestGreat(t *testing.T) {
	deep := blocks(def("Z", "1"))
	for i := range 1 << 16 {
		deep = blocks(api.Block{Kind: api.Quote + i%3, Kids: deep}, def("z", "2"), def("a"))
	}
	if got := Of(deep); !slices.Equal(got, entries("a", "", "z", "1")) {
		t.Errorf("2^16 containers in one another: %q", got)
	}
	long := strings.Repeat("A \t", api.MaxText/3)
	one := Of(blocks(def(long, long)))
	if len(one) != 1 || len(one[0].Label) != 2*(api.MaxText/3)-1 || one[0].To != long {
		t.Errorf("a long label: %d", len(one))
	}
	if to, ok := Find(one, " "+long); to != long || !ok {
		t.Errorf("a long label isn't found")
	}
	const many = 200000
	var wide []api.Block
	for i := range many {
		wide = append(wide, def("L"+strconv.Itoa(many-i), strconv.Itoa(i)), def("l"+strconv.Itoa(many-i), "no"))
	}
	base := Of(wide)
	if len(base) != many || !slices.IsSortedFunc(base, func(a, b Entry) int { return strings.Compare(a.Label, b.Label) }) {
		t.Fatalf("%d definitions", len(base))
	}
	if to, ok := Find(base, "L1"); to != strconv.Itoa(many-1) || !ok {
		t.Errorf("of many: %q, %v", to, ok)
	}
	ours, theirs := slices.Clone(base), slices.Clone(base)
	slices.Reverse(ours)
	theirs[7].To = "x"
	if got, clashes := Merge(base, ours, theirs); !slices.Equal(got, theirs) || len(clashes) > 0 {
		t.Errorf("%d definitions, %d clashes", len(got), len(clashes))
	}
	if got, clashes := Merge(nil, ours, theirs); len(got) != many-1 || !slices.Equal(clashes, []string{theirs[7].Label}) {
		t.Errorf("%d definitions, clashes %q", len(got), clashes)
	}
}

// R3: arguments stay as they are, and so does what lies behind them; R6: a call tells nothing of the one ahead, and of no map's order.
func TestArgumentsStay(t *testing.T) {
	made := func() []api.Block {
		return []api.Block{
			quote([]api.Block{def("B", "1"), def("behind", "no")}[:1]...),
			def("C", []string{"2", "behind"}[:1]...),
			def("d", []string{"behind"}[:0]...),
			def("A", "3"),
			def("behind", "no"),
		}[:4]
	}
	l, was := made(), made()
	want := entries("a", "3", "b", "1", "c", "2", "d", "")
	for range 50 {
		got := Of(l)
		if !slices.Equal(got, want) {
			t.Fatalf("%q, not %q", got, want)
		}
		got[0].To = "other"
		if !slices.EqualFunc(l[:cap(l)], was[:cap(was)], sameWithRoom) {
			t.Fatalf("%+v was %+v", l[:cap(l)], was[:cap(was)])
		}
	}
	lists := [][]Entry{
		entries("b", "1", "a", "1", "c", "1", "behind", "no")[:3],
		entries("c", "2", "a", "1", "a", "2", "b", "1", "behind", "no")[:4],
		entries("d", "1", "c", "3", "b", "2", "behind", "no")[:3],
	}
	var known [][]Entry
	for _, l := range lists {
		known = append(known, slices.Clone(l[:cap(l)]))
	}
	for range 50 {
		got, clashes := Merge(lists[0], lists[1], lists[2])
		if !slices.Equal(got, entries("b", "2", "d", "1")) || !slices.Equal(clashes, []string{"c"}) {
			t.Fatalf("%q, %q", got, clashes)
		}
		got[0].To, clashes[0] = "other", "other"
		for i, l := range lists {
			if to, ok := Find(l, "behind"); to != "" || ok {
				t.Fatalf("what lies behind is found: %q", to)
			}
			if !slices.Equal(l[:cap(l)], known[i]) {
				t.Fatalf("%q was %q", l[:cap(l)], known[i])
			}
		}
	}
}

// sameWithRoom tells whether two blocks are the same, with what lies behind their lists.
func sameWithRoom(a, b api.Block) bool {
	return a.Kind == b.Kind && a.Info == b.Info &&
		len(a.Lines) == len(b.Lines) && slices.Equal(a.Lines[:cap(a.Lines)], b.Lines[:cap(b.Lines)]) &&
		len(a.Kids) == len(b.Kids) && slices.EqualFunc(a.Kids[:cap(a.Kids)], b.Kids[:cap(b.Kids)], sameWithRoom)
}
