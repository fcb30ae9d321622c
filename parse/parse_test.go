package parse

import (
	"math/rand/v2"
	"slices"
	"strings"
	"testing"

	"emendation/api"
	"emendation/span"
	"emendation/tree"
)

// text, code, emph and link are spans of a kind each.
func text(s string) api.Span         { return api.Span{Kind: api.Text, S: s} }
func code(s string) api.Span         { return api.Span{Kind: api.Code, S: s} }
func emph(kids ...api.Span) api.Span { return api.Span{Kind: api.Emph, Kids: kids} }
func link(to string, kids ...api.Span) api.Span {
	return api.Span{Kind: api.Link, S: to, Kids: kids}
}

// para0, heading0, rule0, fence0, quote0, list0, item0 and def0 are blocks of a kind each, as they are told.
func para0(l ...api.Span) api.Block { return api.Block{Kind: api.Para, Spans: l} }
func heading0(level int, l ...api.Span) api.Block {
	return api.Block{Kind: api.Heading, Level: level, Spans: l}
}
func fence0(info string, l ...string) api.Block {
	return api.Block{Kind: api.Fence, Info: info, Lines: l}
}
func quote0(kids ...api.Block) api.Block { return api.Block{Kind: api.Quote, Kids: kids} }
func list0(kids ...api.Block) api.Block  { return api.Block{Kind: api.List, Kids: kids} }
func item0(kids ...api.Block) api.Block  { return api.Block{Kind: api.Item, Kids: kids} }
func def0(label, to string) api.Block {
	return api.Block{Kind: api.Def, Info: label, Lines: []string{to}}
}

var rule0 = api.Block{Kind: api.Rule}

// word is a Para of one Text.
func word(s string) api.Block { return para0(text(s)) }

// blocks and places are lists of what is told.
func blocks(l ...api.Block) []api.Block { return l }
func places(l ...[2]int) [][2]int       { return l }

// example is lines, as one text, what they tell, and where that lies.
type example struct {
	s    string
	want []api.Block
	at   [][2]int
}

// holdExamples holds all functions, and the chapter's words, against examples.
func holdExamples(t *testing.T, all []example) {
	t.Helper()
	for _, x := range all {
		l := strings.Split(x.s, "\n")
		if got, e := Lines(l); e != api.OK || !tree.Same(got, x.want) {
			t.Errorf("Lines(%q): %+v, %d, not %+v", l, got, e, x.want)
		}
		if got, e := Document(x.s + "\n"); e != api.OK || !tree.Same(got, x.want) {
			t.Errorf("Document(%q): %+v, %d, not %+v", x.s+"\n", got, e, x.want)
		}
		if got := Spread(l); !slices.Equal(got, x.at) {
			t.Errorf("Spread(%q): %v, not %v", l, got, x.at)
		}
		holdLines(t, l)
	}
}

// P12.1, P12.2: Blank lines tell nothing; headings, rules and definitions are a line each.
func TestSingleLines(t *testing.T) {
	holdExamples(t, []example{
		{"", nil, nil},
		{"\n \n\t \t\n  ", nil, nil},
		{"# a", blocks(heading0(1, text("a"))), places([2]int{0, 1})},
		{"###### \ta *b*\t ", blocks(heading0(6, text("a "), emph(text("b")))), places([2]int{0, 1})},
		{"##\n# ", blocks(heading0(2), heading0(1)), places([2]int{0, 1}, [2]int{1, 2})},
		{"a\n# b\nc", blocks(word("a"), heading0(1, text("b")), word("c")), places([2]int{0, 1}, [2]int{1, 2}, [2]int{2, 3})},
		{"---\n-----\na\n---", blocks(rule0, rule0, word("a"), rule0), places([2]int{0, 1}, [2]int{1, 2}, [2]int{2, 3}, [2]int{3, 4})},
		{"[x y]: a/b\n[z]: c\na", blocks(def0("x y", "a/b"), def0("z", "c"), word("a")), places([2]int{0, 1}, [2]int{1, 2}, [2]int{2, 3})},
		{"a\n[x]: b", blocks(word("a"), def0("x", "b")), places([2]int{0, 1}, [2]int{1, 2})},
	})
}

// P12.1, P12.2: a Para is of all Plain lines side by side, without Spaces at their ends.
func TestParas(t *testing.T) {
	holdExamples(t, []example{
		{"a", blocks(word("a")), places([2]int{0, 1})},
		{"\na\n\n\t\nb\n", blocks(word("a"), word("b")), places([2]int{1, 2}, [2]int{4, 5})},
		{" a *x\n\tb*  \n[c](d)", blocks(para0(text("a "), emph(text("x\nb")), text("\n"), link("d", text("c")))), places([2]int{0, 3})},
		{"`a\nb` `c`", blocks(para0(text("`a\nb"), code(" "), text("c`"))), places([2]int{0, 2})},
		{"####### a\n#b\n--\n  - c", blocks(word("####### a\n#b\n--\n- c")), places([2]int{0, 4})},
		{"[x]: a b\n``` `\n -", blocks(word("[x]: a b\n``` `\n-")), places([2]int{0, 3})},
	})
}

// P12.1, P12.2: a Fence goes up to a line that closes it, which is of it, or to the end.
func TestFences(t *testing.T) {
	holdExamples(t, []example{
		{"``` go x \na\n\n b\t\n```", blocks(fence0("go x", "a", "", " b\t")), places([2]int{0, 5})},
		{"```\n```\na", blocks(fence0(""), word("a")), places([2]int{0, 2}, [2]int{2, 3})},
		{"````\n```\n`````\na", blocks(fence0("", "```"), word("a")), places([2]int{0, 3}, [2]int{3, 4})},
		{"```\n# a\n- b\n> c\n\n", blocks(fence0("", "# a", "- b", "> c", "", "")), places([2]int{0, 6})},
		{"a\n```", blocks(word("a"), fence0("")), places([2]int{0, 1}, [2]int{1, 2})},
		{"```\n``` \n``\n```a\n ```", blocks(fence0("", "``` ", "``", "```a", " ```")), places([2]int{0, 5})},
		{"```\na\n```\n```\nb", blocks(fence0("", "a"), fence0("", "b")), places([2]int{0, 3}, [2]int{3, 5})},
		{"```\n\n```\n\n", blocks(fence0("", "")), places([2]int{0, 3})},
	})
}

// P12.1, P12.2: a Quote is of all lines of its kind side by side, and of no other.
func TestQuotes(t *testing.T) {
	holdExamples(t, []example{
		{">", blocks(quote0()), places([2]int{0, 1})},
		{"> \n>\t\n>", blocks(quote0()), places([2]int{0, 3})},
		{"> a\n>\n>b", blocks(quote0(word("a"), word("b"))), places([2]int{0, 3})},
		{"> a\n>  b", blocks(quote0(word("a\nb"))), places([2]int{0, 2})},
		{"> a\n\n> b", blocks(quote0(word("a")), quote0(word("b"))), places([2]int{0, 1}, [2]int{2, 3})},
		{"> a\nb", blocks(quote0(word("a")), word("b")), places([2]int{0, 1}, [2]int{1, 2})},
		{"> > a\n> b\n>> c", blocks(quote0(quote0(word("a")), word("b"), quote0(word("c")))), places([2]int{0, 3})},
		{"> ```\n> a\nb", blocks(quote0(fence0("", "a")), word("b")), places([2]int{0, 2}, [2]int{2, 3})},
		{"> ```\n>  a\n>\n> ```\n> b", blocks(quote0(fence0("", " a", ""), word("b"))), places([2]int{0, 5})},
		{"> - a\n>\n>   b\n> - c", blocks(quote0(list0(item0(word("a"), word("b")), item0(word("c"))))), places([2]int{0, 4})},
		{"> # a\n> ---\n> [b]: c", blocks(quote0(heading0(1, text("a")), rule0, def0("b", "c"))), places([2]int{0, 3})},
	})
}

// P12.1, P12.2: a List is of Items, with or without Blank lines between them; an Item's lines go on as long as they can stand in it.
func TestLists(t *testing.T) {
	holdExamples(t, []example{
		{"- a\n\n  b\n- c", blocks(list0(item0(word("a"), word("b")), item0(word("c")))), places([2]int{0, 4})},
		{"-", blocks(list0(item0())), places([2]int{0, 1})},
		{"- \n\n", blocks(list0(item0())), places([2]int{0, 1})},
		{"-\n-\n- a", blocks(list0(item0(), item0(), item0(word("a")))), places([2]int{0, 3})},
		{"- a\n\n \t\n- b\n\n", blocks(list0(item0(word("a")), item0(word("b")))), places([2]int{0, 4})},
		{"- a\n\n\nb\n- c", blocks(list0(item0(word("a"))), word("b"), list0(item0(word("c")))), places([2]int{0, 1}, [2]int{3, 4}, [2]int{4, 5})},
		{"- a\nb", blocks(list0(item0(word("a"))), word("b")), places([2]int{0, 1}, [2]int{1, 2})},
		{"- a\n b", blocks(list0(item0(word("a"))), word("b")), places([2]int{0, 1}, [2]int{1, 2})},
		{"- a\n\tb", blocks(list0(item0(word("a"))), word("b")), places([2]int{0, 1}, [2]int{1, 2})},
		{"- a\n  b", blocks(list0(item0(word("a\nb")))), places([2]int{0, 2})},
		{"-\n\n  a", blocks(list0(item0(word("a")))), places([2]int{0, 3})},
		{"- a\n---\n- b", blocks(list0(item0(word("a"))), rule0, list0(item0(word("b")))), places([2]int{0, 1}, [2]int{1, 2}, [2]int{2, 3})},
		{"- ---\n  # a\n  [b]: c", blocks(list0(item0(rule0, heading0(1, text("a")), def0("b", "c")))), places([2]int{0, 3})},
		{"- > a\n  > b\n> c", blocks(list0(item0(quote0(word("a\nb")))), quote0(word("c"))), places([2]int{0, 2}, [2]int{2, 3})},
	})
}

// P12.1, P12.2: Lists in Items, and Fences in Items, which end with these.
func TestListsDeeper(t *testing.T) {
	holdExamples(t, []example{
		{"- - a\n  - b\n- c", blocks(list0(item0(list0(item0(word("a")), item0(word("b")))), item0(word("c")))), places([2]int{0, 3})},
		{"- - a\n\n    b\n\n  c", blocks(list0(item0(list0(item0(word("a"), word("b"))), word("c")))), places([2]int{0, 5})},
		{"- - a\n\n- b\n\n  - c\n", blocks(list0(item0(list0(item0(word("a")))), item0(word("b"), list0(item0(word("c")))))), places([2]int{0, 5})},
		{"- - - -", blocks(list0(item0(list0(item0(list0(item0(list0(item0())))))))), places([2]int{0, 1})},
		{"- ```\n  a\n\n  \n   \n  b\n  ```\n  c", blocks(list0(item0(fence0("", "a", "", "", " ", "b"), word("c")))), places([2]int{0, 8})},
		{"- ```\n  a\n\n  \n   \n- b", blocks(list0(item0(fence0("", "a")), item0(word("b")))), places([2]int{0, 6})},
		{"- ```\n  a\n\n", blocks(list0(item0(fence0("", "a")))), places([2]int{0, 2})},
		{"- ```\na\n  ```", blocks(list0(item0(fence0(""))), word("a\n```")), places([2]int{0, 1}, [2]int{1, 3})},
		{"- a\n  ```\n\n  b\n  ```", blocks(list0(item0(word("a"), fence0("", "", "b")))), places([2]int{0, 5})},
	})
}

// P12.1: all short lists of lines, at the top and in containers.
func TestShortLists(t *testing.T) {
	holdLists(t, 4, "", "\t", "a", " b\t", "# h", "---", "```x", "```", "````", "> a", ">", "[a]: b", "- a", "-", "  c")
	holdLists(t, 4, "", "  ", "   ", "- a", "-", "- - b", "  - c", "    d", "  e", "f", "- > g", "  > h", "- ```", "  ```", "  a", "> - i", ">   j")
	holdLists(t, 7, "", "- a", "  - ```", "    b", "> c")
	holdLists(t, 7, "", " ", "-", "  a", "b")
}

// mixedLine is a line of marks and words in any order.
func mixedLine(r *rand.Rand) string {
	pieces := []string{"- ", "> ", "  ", "    ", "```", "````", "# ", "a", "b c", "*", "`", "[a]: b", "---", "\t", " ", "[", "](x)", "\\", "é"}
	var out strings.Builder
	for range r.IntN(6) {
		out.WriteString(pieces[r.IntN(len(pieces))])
	}
	return out.String()
}

// P12.1 to P12.3: mixed lines, many of them.
func TestMixedLines(t *testing.T) {
	r := rand.New(rand.NewPCG(12, 1))
	for range 40000 {
		var l []string
		for range r.IntN(16) {
			if r.IntN(4) == 0 {
				l = append(l, "")
			} else {
				l = append(l, mixedLine(r))
			}
		}
		holdLines(t, l)
	}
}

// P12.1: more than MaxDeep containers one in the other are too many, of whatever kinds; P12.2: Spread tells places nonetheless.
func TestDeep(t *testing.T) {
	seen := map[int]int{}
	var hold func(marks string)
	hold = func(marks string) {
		holdLines(t, []string{marks})
		deep := holdLines(t, []string{"", marks + "a", "b"})
		seen[deep]++
		if deep <= api.MaxDeep {
			hold(marks + "> ")
			hold(marks + "- ")
		}
	}
	hold("")
	for deep := range api.MaxDeep + 3 {
		if seen[deep] == 0 {
			t.Errorf("no order of marks has %d containers one in the other", deep)
		}
	}
}

// P12.1: it is too deep wherever it is, and nothing is told with it.
func TestDeepElsewhere(t *testing.T) {
	quotes := strings.Repeat(">", api.MaxDeep)
	items := strings.Repeat("- ", api.MaxDeep/2)
	for _, x := range []struct {
		s    string
		want api.Errno
		at   [][2]int
	}{
		{quotes, api.OK, places([2]int{0, 1})},
		{">" + quotes, api.ErrDeep, places([2]int{0, 1})},
		{items + "a", api.OK, places([2]int{0, 1})},
		{items + ">", api.ErrDeep, places([2]int{0, 1})},
		{items + "-", api.ErrDeep, places([2]int{0, 1})},
		{"a\n>" + quotes + "\nb", api.ErrDeep, places([2]int{0, 1}, [2]int{1, 2}, [2]int{2, 3})},
		{quotes + "\n>" + quotes, api.ErrDeep, places([2]int{0, 2})},
		{"- a\n- b\n\n  " + quotes[:14] + "\n- c", api.OK, places([2]int{0, 5})},
		{"- a\n- b\n\n  " + quotes[:15] + "\n- c", api.ErrDeep, places([2]int{0, 5})},
		{quotes[:15] + "- a", api.ErrDeep, places([2]int{0, 1})},
		{quotes[:14] + "- a\n" + quotes[:14] + "- b", api.OK, places([2]int{0, 2})},
		{"```\n>" + quotes + "\n```", api.OK, places([2]int{0, 3})},
		{"# >" + quotes, api.OK, places([2]int{0, 1})},
	} {
		l := strings.Split(x.s, "\n")
		if got, e := Lines(l); e != x.want || e != api.OK && len(got) > 0 {
			t.Errorf("Lines(%q): %+v, %d, not %d", l, got, e, x.want)
		}
		if got := Spread(l); !slices.Equal(got, x.at) {
			t.Errorf("Spread(%q): %v, not %v", l, got, x.at)
		}
		holdLines(t, l)
	}
}

// P12.1: Document is Check's error first, and else what layer 2's lines tell.
func TestDocument(t *testing.T) {
	tooDeep := strings.Repeat(">", api.MaxDeep+1) + "\n"
	long := strings.Repeat("a", api.MaxText+1)
	for s, want := range map[string]api.Errno{
		"": api.OK, "a": api.OK, tooDeep: api.ErrDeep,
		"\x00": api.ErrNul, "a\xff\x00": api.ErrNul, tooDeep + "\x00": api.ErrNul,
		"\xff": api.ErrUTF, "# \xc3": api.ErrUTF, tooDeep + "\xed\xa0\x80": api.ErrUTF,
		long: api.ErrLong, long + "\x00": api.ErrLong, tooDeep + long: api.ErrLong, long + "\xff": api.ErrLong,
		long[1:]: api.OK,
	} {
		if got, e := Document(s); e != want || e != api.OK && len(got) > 0 {
			t.Errorf("Document of %d bytes, %.20q: %d blocks, %d, not %d", len(s), s, len(got), e, want)
		}
	}
	for s, want := range map[string][]api.Block{
		"a\r\n# b\r- c\r\r\n  d": blocks(word("a"), heading0(1, text("b")), list0(item0(word("c"), word("d")))),
		"```\na\n\n":             blocks(fence0("", "a", "")),
		"```\na\n":               blocks(fence0("", "a")),
		"```\r\na\r\n```":        blocks(fence0("", "a")),
		"é\u00a0\nü":             blocks(word("é\u00a0\nü")),
	} {
		if got, e := Document(s); e != api.OK || !tree.Same(got, want) {
			t.Errorf("Document(%q): %+v, %d, not %+v", s, got, e, want)
		}
	}
}

// P12.2: blocks lie behind one another, only Blank lines lie between them, and each is told by its own lines alone.
func TestSpreadAlone(t *testing.T) {
	r := rand.New(rand.NewPCG(12, 2))
	for range 10000 {
		var l []string
		for range r.IntN(12) {
			l = append(l, mixedLine(r))
		}
		whole, e := Lines(l)
		at := Spread(l)
		if e != api.OK {
			continue
		}
		if len(at) != len(whole) {
			t.Fatalf("of %q: %d blocks, %d places", l, len(whole), len(at))
		}
		behind := 0
		for i, p := range at {
			if p[0] < behind || p[1] <= p[0] || p[1] > len(l) {
				t.Fatalf("Spread(%q): %v", l, at)
			}
			if between := blocksByWords(l[behind:p[0]]); len(between) > 0 {
				t.Fatalf("Spread(%q): %v, with %+v between", l, at, between)
			}
			alone, e := Lines(l[p[0]:p[1]])
			if e != api.OK || !tree.Same(alone, whole[i:i+1]) {
				t.Fatalf("Lines(%q): %+v, %d, not %+v", l[p[0]:p[1]], alone, e, whole[i:i+1])
			}
			behind = p[1]
		}
		if rest := blocksByWords(l[behind:]); len(rest) > 0 {
			t.Fatalf("Spread(%q): %v, with %+v behind", l, at, rest)
		}
	}
}

// greatText is some first lines, and a piece again and again, up to MaxText bytes.
func greatText(first, piece string) string {
	return (first + strings.Repeat(piece, api.MaxText/len(piece)+1))[:api.MaxText]
}

// P12.1 to P12.3: texts as long as may be are read (with no line gone through again and again), and are in normal form.
func TestGreatTexts(t *testing.T) {
	deep := strings.Repeat("- ", api.MaxDeep/2)
	var all []string
	for _, piece := range []string{
		"\n", "\r", "a\n", "a\n\n", "a", "*", "`", "[", "# \n", "#", "---\n", "-", "-\n", "- \n\n", "- a\n  b\n",
		"```\n", "```", "> a\n", "> - a\n", "[a]: b\n", "[a](b)*`c`*\n", deep + "a\n",
		strings.Repeat(">", api.MaxDeep) + "\n", "\n                a",
	} {
		all = append(all, greatText("", piece))
	}
	for _, piece := range []string{"\n", "a\n", "  a\n", "-\n", "  -\n", "\n  ```\n", "\n                a"} {
		all = append(all, greatText(deep+"a\n", piece), greatText("- ```\n", piece))
	}
	blank := strings.Repeat("\n", api.MaxText-2*api.MaxDeep)
	all = append(all, deep+blank+strings.Repeat(" ", api.MaxDeep-1), deep+blank[1:]+strings.Repeat(" ", api.MaxDeep)+"a")
	for _, s := range all {
		got, e := Document(s)
		if e != api.OK || !tree.Right(got) {
			t.Errorf("Document of %d bytes, %.40q: %d, in normal form: %v", len(s), s, e, tree.Right(got))
		}
	}
	for _, s := range []string{strings.Repeat(">", api.MaxText), greatText("", "- "), greatText("", deep+"-\n"), greatText("> a\n\n", "a\n")[:api.MaxText-21] + deep + "-"} {
		if got, e := Document(s); e != api.ErrDeep || len(got) > 0 {
			t.Errorf("Document of %d bytes, %.40q: %d blocks, %d", len(s), s, len(got), e)
		}
	}
}

// P12.1 (R1): of lines that aren't a text's the call ends.
func TestNoLines(t *testing.T) {
	odd := []string{"a\nb", "\n", "\r", "# a\n", "> a\n> b", "- a\n- b", "- ```\n", "  \n", "```\n```", "```\n", "[a\n]: b", "[a]: b\n", "\x00", "\xff", "- \x00", "> \xed\xa0\x80", "", "a", "```"}
	for _, x := range odd {
		for _, y := range odd {
			for _, z := range odd {
				Lines([]string{x, y, z})
				Spread([]string{x, y, z})
			}
		}
	}
	long := strings.Repeat("a", api.MaxText+1)
	for _, mark := range []string{"", "# ", "```", "> ", "- ", "[", "[a]: "} {
		for _, s := range []string{mark + long, mark + long + "]: b", strings.Repeat("*", 4) + mark + long} {
			Lines([]string{s, "", s})
			Spread([]string{s, "  " + s})
		}
	}
	Lines(slices.Repeat([]string{long}, 20))
	Lines([]string{strings.Repeat(">", 1<<22)})
	Lines([]string{strings.Repeat("- ", 1<<21)})
}

// R3: lines are neither changed nor kept, and what lies behind them isn't read.
func TestLinesStay(t *testing.T) {
	all := []string{"```", "a", "b", "```", "- ```", "  c", "> ```", "> d", "```", "e", "f", "```", "  g"}
	for n := range all {
		l := slices.Clone(all)
		short, e := Lines(l[:n])
		again, _ := Lines(slices.Clip(slices.Clone(all[:n])))
		if e != api.OK || !tree.Same(short, again) || !slices.Equal(Spread(l[:n]), Spread(all[:n:n])) {
			t.Fatalf("of %q: %+v, with room behind it; else %+v", all[:n], short, again)
		}
		if !slices.Equal(l, all) {
			t.Fatalf("of %q: the lines are %q now", all, l)
		}
		for i := range l {
			l[i] = "x"
		}
		if !tree.Same(short, again) {
			t.Fatalf("of %q: %+v, when the lines change", all[:n], short)
		}
		overwrite(short)
		if slices.ContainsFunc(l, func(s string) bool { return s != "x" }) {
			t.Fatalf("of %q: the lines are %q, when what they told changes", all[:n], l)
		}
	}
}

// overwrite changes all lists of lines in blocks, and puts one more behind each.
func overwrite(l []api.Block) {
	for _, b := range l {
		for i := range b.Lines {
			b.Lines[i] = "y"
		}
		_ = append(b.Lines, "y")
		overwrite(b.Kids)
	}
}

// P12.3: what is read is in normal form, of texts of any bytes.
func TestNormalForm(t *testing.T) {
	r := rand.New(rand.NewPCG(12, 3))
	bytes := "\n\n\n\r  \t->>`#*[]():\\ab\xc3\xa9"
	read := 0
	for range 60000 {
		var s strings.Builder
		for range r.IntN(40) {
			s.WriteByte(bytes[r.IntN(len(bytes))])
		}
		got, e := Document(s.String())
		if e == api.OK && len(got) > 0 {
			read++
		}
		if !tree.Right(got) {
			t.Fatalf("Document(%q): %+v, not in normal form", s.String(), got)
		}
		for _, b := range got {
			if b.Kind == api.Para && !span.Right(b.Spans) {
				t.Fatalf("Document(%q): %+v, not in normal form", s.String(), b.Spans)
			}
		}
	}
	if read < 10000 {
		t.Errorf("only %d of 60000 texts tell anything", read)
	}
}
