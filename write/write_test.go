package write

import (
	"math"
	"math/rand/v2"
	"slices"
	"strings"
	"testing"

	"emendation/api"
	"emendation/parse"
	"emendation/spanin"
	"emendation/tree"
)

// text, code, emph and link are spans of a kind each.
func text(s string) api.Span         { return api.Span{Kind: api.Text, S: s} }
func code(s string) api.Span         { return api.Span{Kind: api.Code, S: s} }
func emph(kids ...api.Span) api.Span { return api.Span{Kind: api.Emph, Kids: kids} }
func link(to string, kids ...api.Span) api.Span {
	return api.Span{Kind: api.Link, S: to, Kids: kids}
}

// para, heading, rule, fence, quote, list, item and def are blocks of a kind each.
func para(l ...api.Span) api.Block { return api.Block{Kind: api.Para, Spans: l} }
func heading(level int, l ...api.Span) api.Block {
	return api.Block{Kind: api.Heading, Level: level, Spans: l}
}
func fence(info string, l ...string) api.Block {
	return api.Block{Kind: api.Fence, Info: info, Lines: l}
}
func quote(kids ...api.Block) api.Block { return api.Block{Kind: api.Quote, Kids: kids} }
func list(kids ...api.Block) api.Block  { return api.Block{Kind: api.List, Kids: kids} }
func item(kids ...api.Block) api.Block  { return api.Block{Kind: api.Item, Kids: kids} }
func def(label string, to ...string) api.Block {
	return api.Block{Kind: api.Def, Info: label, Lines: to}
}

var rule = api.Block{Kind: api.Rule}

// word is a Para of one Text.
func word(s string) api.Block { return para(text(s)) }

// blocks is a list of blocks.
func blocks(l ...api.Block) []api.Block { return l }

// example is blocks, and the lines that they are written as, joined by LF.
type example struct {
	l    []api.Block
	want string
}

// holdExamples holds examples.
func holdExamples(t *testing.T, all []example) {
	t.Helper()
	for _, x := range all {
		if got, e := Lines(x.l); e != api.OK || strings.Join(got, "\n") != x.want {
			t.Errorf("Lines(%+v): %q, %d, not %q", x.l, got, e, x.want)
		}
		if got, e := Document(x.l); e != api.OK || got != x.want+"\n" {
			t.Errorf("Document(%+v): %q, %d, not %q", x.l, got, e, x.want+"\n")
		}
		hold(t, x.l)
	}
}

// P13.1: what each kind of block that is no container is written as.
func TestSingleBlocks(t *testing.T) {
	holdExamples(t, []example{
		{blocks(word("a")), "a"},
		{blocks(word("a\nb c\nd")), "a\nb c\nd"},
		{blocks(word("# a\n> b\n- c\n---\n```\n[d]: e")), "\\# a\n\\> b\n\\- c\n\\-\\-\\-\n\\`\\`\\`\n\\[d\\]: e"},
		{blocks(para(emph(text("\n")), text("a"), emph(text("b\n")), code("``\t"))), "*\n*a*b\n*` ``\t `"},
		{blocks(para(code("# a"))), "`# a`"},
		{blocks(para(link("-", text("a\nb")), text("\nc"))), "[a\nb](-)\nc"},
		{blocks(heading(1)), "#"},
		{blocks(heading(6)), "######"},
		{blocks(heading(1, text("a"))), "# a"},
		{blocks(heading(3, text("#a "), emph(text("b")), code("c"))), "### \\#a *b*`c`"},
		{blocks(rule), "---"},
		{blocks(def("a b", "c/d")), "[a b]: c/d"},
		{blocks(def("#", "-")), "[#]: -"},
	})
}

// P13.1: what a Fence is written as.
func TestFences(t *testing.T) {
	holdExamples(t, []example{
		{blocks(fence("")), "```\n```"},
		{blocks(fence("", "")), "```\n\n```"},
		{blocks(fence("go run", "a", "", " b\t", " ")), "```go run\na\n\n b\t\n \n```"},
		{blocks(fence("", "`", "``")), "```\n`\n``\n```"},
		{blocks(fence("x", "a```b")), "````x\na```b\n````"},
		{blocks(fence("", "```", "`````", "````")), "``````\n```\n`````\n````\n``````"},
		{blocks(fence("", "# a", "- b", "> c", "[d]: e", "*\\")), "```\n# a\n- b\n> c\n[d]: e\n*\\\n```"},
	})
}

// P13.1: what containers are written as.
func TestContainers(t *testing.T) {
	holdExamples(t, []example{
		{blocks(list(item(word("a")), item(word("b")))), "- a\n- b"},
		{blocks(list(item())), "-"},
		{blocks(list(item(), item(), item(rule))), "-\n-\n- ---"},
		{blocks(list(item(word("a\nb"), word("c")), item(word("d")))), "- a\n  b\n\n  c\n- d"},
		{blocks(list(item(fence("", "a", "", " ", "  b")))), "- ```\n  a\n\n   \n    b\n  ```"},
		{blocks(list(item(list(item(), item(word("a"), rule))), item(quote()))), "- -\n  - a\n\n    ---\n- >"},
		{blocks(quote()), ">"},
		{blocks(quote(word("a\nb"))), "> a\n> b"},
		{blocks(quote(word("a"), word("b"))), "> a\n>\n> b"},
		{blocks(quote(fence("", "", " ", "\ta"))), "> ```\n>\n>  \n> \ta\n> ```"},
		{blocks(quote(quote(), quote(rule))), "> >\n>\n> > ---"},
		{blocks(quote(list(item(), item(word("a"), quote(word("b"), word("c")))))), "> -\n> - a\n>\n>   > b\n>   >\n>   > c"},
	})
}

// P13.1: between each two blocks there is an empty line, at the top and in containers; of no blocks nothing is written.
func TestBetween(t *testing.T) {
	if got, e := Lines(nil); e != api.OK || len(got) > 0 {
		t.Errorf("Lines of no blocks: %q, %d", got, e)
	}
	if got, e := Document(nil); e != api.OK || got != "" {
		t.Errorf("Document of no blocks: %q, %d", got, e)
	}
	hold(t, nil)
	hold(t, blocks())
	holdExamples(t, []example{
		{blocks(word("a"), word("b")), "a\n\nb"},
		{blocks(heading(1), heading(2), rule, rule), "#\n\n##\n\n---\n\n---"},
		{blocks(def("a", "b"), def("a", "b"), word("c")), "[a]: b\n\n[a]: b\n\nc"},
		{blocks(quote(), quote()), ">\n\n>"},
		{blocks(fence(""), fence("")), "```\n```\n\n```\n```"},
		{blocks(list(item()), word("a"), list(item())), "-\n\na\n\n-"},
		{blocks(list(item(word("a"))), fence("", "b"), quote(rule), list(item())), "- a\n\n```\nb\n```\n\n> ---\n\n-"},
	})
}

// P13.1: Ticks is one more than the longest run in any line, and at least three.
func TestTicks(t *testing.T) {
	for _, c := range []struct {
		l    []string
		want int
	}{
		{nil, 3}, {[]string{""}, 3}, {[]string{"a", "`", "``"}, 3}, {[]string{"``a``b``"}, 3},
		{[]string{"```"}, 4}, {[]string{"a```", "b"}, 4}, {[]string{"``", "a````b", "```"}, 5},
		{[]string{"``\n``"}, 3}, {[]string{"```\n", "\x00\xff````"}, 5},
		{[]string{strings.Repeat("`", api.MaxText)}, api.MaxText + 1},
		{[]string{"a", strings.Repeat("`", api.MaxText+3) + "b"}, api.MaxText + 4},
	} {
		if got := Ticks(c.l); got != c.want {
			t.Errorf("Ticks(%.40q): %d, not %d", c.l, got, c.want)
		}
	}
	var short []string
	for n := range 1 << 9 {
		var s strings.Builder
		for ; n > 0; n /= 2 {
			s.WriteByte("`a"[n%2])
		}
		short = append(short, s.String())
	}
	for i, a := range short {
		if got, want := Ticks([]string{a}), ticksByWords([]string{a}); got != want {
			t.Fatalf("Ticks(%q): %d, not %d", a, got, want)
		}
		for _, b := range short[i:] {
			l := []string{a, b}
			if got, want := Ticks(l), ticksByWords(l); got != want {
				t.Fatalf("Ticks(%q): %d, not %d", l, got, want)
			}
		}
	}
}

// P13.1: what isn't in normal form isn't written, wherever in it that is.
func TestWrong(t *testing.T) {
	for _, b := range []api.Block{
		{}, {Kind: -1}, {Kind: 9}, {Kind: math.MaxInt}, {Kind: math.MinInt},
		item(), item(rule), para(), para(text("")), para(text(" a")), para(text("a\n")), para(text("a"), text("b")),
		para(emph(emph(text("a")))), para(text("a\xff")), para(link("a b", text("c"))), para(code("a\nb")),
		heading(0, text("a")), heading(7), heading(-1), heading(math.MaxInt), heading(math.MinInt), heading(1, text("a\nb")), heading(1, text(" a")),
		fence(" a"), fence("a`"), fence("a\nb"), fence("", "a\nb"), fence("", "\r"), fence("", "a", "\x00"),
		list(), list(rule), list(item(), rule), list(list(item())), list(item(item())), list(item(para())),
		quote(item()), quote(para()), quote(list(item()), list(item())), quote(quote(quote(heading(9)))),
		def("a"), def("", "b"), def("a", ""), def("a", "b c"), def("a", "b", "c"), def("a]", "b"), def(" a", "b"),
		{Kind: api.Rule, Level: 1}, {Kind: api.Rule, Info: "a"}, {Kind: api.Rule, Lines: []string{""}}, {Kind: api.Rule, Spans: []api.Span{text("a")}}, {Kind: api.Rule, Kids: blocks(rule)},
		{Kind: api.Para, Level: 1, Spans: []api.Span{text("a")}}, {Kind: api.Quote, Lines: []string{"a"}}, {Kind: api.Fence, Kids: blocks(rule)},
	} {
		holdWrong(t, blocks(b))
		holdWrong(t, blocks(rule, b))
		holdWrong(t, blocks(b, rule))
		holdWrong(t, blocks(quote(word("a"), b)))
		holdWrong(t, blocks(word("a"), list(item(), item(b, rule))))
	}
	holdWrong(t, blocks(list(item()), list(item())))
}

// P13.1: MaxDeep containers one in the other are written, more aren't; P13.2: of whatever kinds.
func TestDeep(t *testing.T) {
	seen := map[int]int{}
	var deeper func(b api.Block)
	deeper = func(b api.Block) {
		deep := tree.Deep(blocks(b))
		if holdAny(t, blocks(b, rule)) != (deep <= api.MaxDeep) {
			t.Fatalf("%+v has %d containers one in the other", b, deep)
		}
		seen[deep]++
		if deep <= api.MaxDeep {
			deeper(quote(b))
			deeper(list(item(b)))
		}
	}
	deeper(fence("x", "", "a"))
	for deep := range api.MaxDeep + 3 {
		if seen[deep] == 0 {
			t.Errorf("nothing has %d containers one in the other", deep)
		}
	}
	far := rule
	for range 1 << 16 {
		far = quote(far)
	}
	holdWrong(t, blocks(far))
}

// P13.1, P13.2: all small trees of all kinds.
func TestSmallTrees(t *testing.T) {
	leaves := blocks(word("a"), para(code("b"), text("\nc")), heading(2, text("d")), rule, fence("", "", "e"), def("f", "g"), quote(), list(item()))
	right := 0
	for _, l := range lists(4, leaves) {
		if holdAny(t, l) {
			right++
		}
	}
	if right < 4000 {
		t.Errorf("only %d lists are in normal form", right)
	}
	right = 0
	for _, l := range lists(6, blocks(rule, fence("", ""))) {
		if holdAny(t, l) {
			right++
		}
	}
	if right < 3000 {
		t.Errorf("only %d lists of two kinds are in normal form", right)
	}
}

// lists is all lists that take n steps at most: a leaf is one, and so is a Quote, a List of one Item, and an Item more in a List.
func lists(n int, leaves []api.Block) [][]api.Block {
	out := [][]api.Block{nil}
	for size := 1; size <= n; size++ {
		for _, first := range trees(size, leaves) {
			for _, l := range lists(n-size, leaves) {
				out = append(out, append(blocks(first), l...))
			}
		}
	}
	return out
}

// trees is all blocks that take just n steps.
func trees(n int, leaves []api.Block) []api.Block {
	if n == 1 {
		return leaves
	}
	var out []api.Block
	for _, kids := range exact(n-1, leaves) {
		out = append(out, quote(kids...), list(item(kids...)))
	}
	for size := 1; size < n-1; size++ {
		for _, first := range exact(size, leaves) {
			for _, second := range exact(n-1-size, leaves) {
				out = append(out, list(item(first...), item(second...)))
			}
		}
	}
	return out
}

// exact is all lists that take just n steps.
func exact(n int, leaves []api.Block) [][]api.Block {
	if n == 0 {
		return [][]api.Block{nil}
	}
	var out [][]api.Block
	for size := 1; size <= n; size++ {
		for _, first := range trees(size, leaves) {
			for _, l := range exact(n-size, leaves) {
				out = append(out, append(blocks(first), l...))
			}
		}
	}
	return out
}

// shortTexts is all texts of at most n of some bytes.
func shortTexts(n int, bytes string) []string {
	out := []string{""}
	for from := 0; n > 0; n-- {
		to := len(out)
		for _, s := range out[from:to] {
			for i := range len(bytes) {
				out = append(out, s+bytes[i:i+1])
			}
		}
		from = to
	}
	return out
}

// P13.1, P13.2: Paras, Headings and Fences of all short texts, at the top and in containers.
func TestShortTexts(t *testing.T) {
	for _, s := range shortTexts(4, "\\*[]#>-`a: \t\n") {
		for _, b := range []api.Block{word(s), heading(1, text(s)), fence("", s), fence(s, s)} {
			holdAny(t, blocks(b))
		}
		if strings.ContainsAny(s, "\n->`#[") {
			holdAny(t, blocks(list(item(word(s)), item(fence("", s, ""), word(s)))))
			holdAny(t, blocks(quote(word(s), fence("", s))))
		}
	}
	for _, s := range shortTexts(4, "`-# a]:>") {
		holdAny(t, blocks(para(code(s))))
		holdAny(t, blocks(para(text("x\n"), code(s), text("\ny"))))
		holdAny(t, blocks(heading(2, code(s), text("x"))))
		holdAny(t, blocks(para(link("x", code(s)), emph(code(s)))))
		holdAny(t, blocks(def(s, "#-:"), list(item(def(s, "a"), rule))))
	}
	for _, s := range shortTexts(3, "-#>`\n a") {
		for _, u := range shortTexts(2, "-:#\n ") {
			holdAny(t, blocks(quote(para(emph(text(s)), text(u), link("-#", text(s)), code(u)))))
			holdAny(t, blocks(list(item(para(code(u), text(s), emph(text(u)))))))
		}
	}
	for c := range 256 {
		s := string([]byte{byte(c)})
		for _, b := range []api.Block{word("a" + s + "b"), heading(1, code(s)), fence("a"+s+"b", s, "a"+s), def("a"+s+"b", "c"), def("a", "b"+s), para(text("é"+string(rune(c))), link(s, code("a")))} {
			holdAny(t, blocks(b))
			holdAny(t, blocks(quote(list(item(b, b)))))
		}
	}
}

// mixed makes blocks of all kinds in any order, mostly in normal form, with room for so many containers one in the other.
func mixed(r *rand.Rand, room int) []api.Block {
	var out []api.Block
	for range r.IntN(4) {
		out = append(out, mixedBlock(r, room))
	}
	return out
}

// mixedBlock is one such block.
func mixedBlock(r *rand.Rand, room int) api.Block {
	switch k := r.IntN(9); {
	case k == 0:
		return rule
	case k == 1:
		return heading(1+r.IntN(6), mixedSpans(r, " ")...)
	case k == 2:
		return fence(mixedText(r, 2, "a#-"), strings.Split(mixedText(r, 12, "`` \n\n-a>\t"), "\n")...)
	case k == 3:
		return def("a"+mixedText(r, 3, "#>-`*!:")+"é", mixedText(r, 3, "/:-#")+"x")
	case k < 6 || room < 2:
		return para(mixedSpans(r, "\n")...)
	case k == 6:
		return quote(mixed(r, room-1)...)
	}
	out := list(item(mixed(r, room-2)...))
	for range r.IntN(3) {
		out.Kids = append(out.Kids, item(mixed(r, room-2)...))
	}
	return out
}

// mixedText is a text of at most n of some bytes.
func mixedText(r *rand.Rand, n int, bytes string) string {
	var out strings.Builder
	for range r.IntN(n + 1) {
		out.WriteByte(bytes[r.IntN(len(bytes))])
	}
	return out.String()
}

// mixedSpans is what a text of marks and words tells, whose words some byte may stand between.
func mixedSpans(r *rand.Rand, between string) []api.Span {
	pieces := []string{"a", "#", "-", ">", "`", "``", "*", "[", "](b)", "\\*", "\\`", "---", "c d", " ", "[x]: y", "é", between}
	s := "w"
	for range r.IntN(10) {
		s += pieces[r.IntN(len(pieces))]
	}
	return spanin.Parse(s + pieces[r.IntN(3)])
}

// P13.1, P13.2: mixed trees, many of them.
func TestMixedTrees(t *testing.T) {
	r := rand.New(rand.NewPCG(13, 1))
	right, wrong := 0, 0
	for range 20000 {
		if holdAny(t, mixed(r, r.IntN(api.MaxDeep+4))) {
			right++
		} else {
			wrong++
		}
	}
	if right < 8000 || wrong < 1000 {
		t.Errorf("%d are in normal form, %d aren't", right, wrong)
	}
}

// P13.2: what any text tells is written, and read as that.
func TestReadAndWritten(t *testing.T) {
	r := rand.New(rand.NewPCG(13, 2))
	pieces := []string{"\n", "\n", "\n", "\n\n", "- ", "-", "> ", ">", "  ", " ", "\t", "```", "`", "# ", "#", "*", "[a]: b", "[", "](c)", "---", "a", "b c", "é", "\\", "\r"}
	for range 20000 {
		var s strings.Builder
		for range r.IntN(30) {
			s.WriteString(pieces[r.IntN(len(pieces))])
		}
		l, e := parse.Document(s.String())
		if e != api.OK {
			t.Fatalf("%q is read with error %d", s.String(), e)
		}
		hold(t, l)
	}
}

// holdGreat holds blocks that are too great for the chapter's words against reading alone.
func holdGreat(t *testing.T, l []api.Block) {
	t.Helper()
	got, e := Lines(l)
	if e != api.OK {
		t.Fatalf("Lines of %d great blocks: %d", len(l), e)
	}
	if back, e := parse.Lines(got); e != api.OK || !tree.Same(back, l) {
		t.Fatalf("%d lines, %.40q, of %d blocks, read as %d, %d", len(got), got[0], len(l), len(back), e)
	}
	if whole, e := Document(l); e != api.OK || whole != strings.Join(got, "\n")+"\n" {
		t.Fatalf("Document of %d great blocks: %d bytes, %d", len(l), len(whole), e)
	}
}

// P13.1, P13.2: texts of MaxText bytes, which may be longer when they are written, and many blocks.
func TestGreat(t *testing.T) {
	long := strings.Repeat("a", api.MaxText)
	marks := strings.Repeat("-", api.MaxText)
	ticks := strings.Repeat("`", api.MaxText)
	lines := strings.Repeat("b\n", api.MaxText/2-1) + "b"
	deep := func(b api.Block) api.Block {
		for range api.MaxDeep/2 - 1 {
			b = list(item(b, rule))
		}
		return quote(quote(b))
	}
	for _, b := range []api.Block{
		word(long), word(marks), para(code(ticks)), word(lines), heading(6, text(long)),
		fence("", ticks), fence(long, long, "", long), def(long, long), def(marks, marks),
	} {
		holdGreat(t, blocks(b, b))
		holdGreat(t, blocks(deep(b)))
	}
	holdGreat(t, slices.Repeat(blocks(rule, quote(), list(item(), item())), 1<<15))
	holdGreat(t, slices.Repeat(blocks(deep(word("a\nb"))), 1<<10))
	for _, b := range []api.Block{word(long + "a"), heading(1, text(long+"a")), fence(long + "a"), fence("", long+"a"), def(long+"a", "b"), def("a", long+"b")} {
		if got, e := Lines(blocks(rule, b)); e != api.ErrForm || len(got) > 0 {
			t.Errorf("Lines of a block of kind %d with too long a text: %d lines, %d", b.Kind, len(got), e)
		}
		if got, e := Document(blocks(rule, b)); e != api.ErrForm || got != "" {
			t.Errorf("Document of a block of kind %d with too long a text: %d bytes, %d", b.Kind, len(got), e)
		}
	}
}

// R3: blocks are neither changed nor kept, and what lies behind them is neither read nor written.
func TestBlocksStay(t *testing.T) {
	make0 := func() []api.Block {
		code := []string{"a", "b", "x\ny"}
		spans := []api.Span{text("c"), emph(text("d")), text(" ")}
		kids := blocks(word("e"), rule, item())
		items := blocks(item(kids[:2]...), item(), rule)
		return blocks(fence("go", code[:2]...), para(spans[:2]...), quote(kids[:2]...), list(items[:2]...), def("f", "g"), item())
	}
	l := make0()
	for n := range len(l) {
		got, e := Lines(l[:n])
		again, _ := Lines(slices.Clip(make0()[:n]))
		if e != api.OK || !slices.Equal(got, again) {
			t.Fatalf("of %+v: %q, %d, with room behind it; else %q", l[:n], got, e, again)
		}
		for i := range got {
			got[i] = "z"
		}
		_ = append(got, "z")
		if more, _ := Lines(l[:n]); !slices.Equal(more, again) {
			t.Fatalf("of %+v: %q, when the answer changes", l[:n], more)
		}
	}
	want := make0()
	for i := range l {
		if !sameWithRoom(l[i], want[i]) {
			t.Errorf("%+v is %+v now", want[i], l[i])
		}
	}
}

// sameWithRoom tells whether two blocks are alike, and what lies behind their lists too.
func sameWithRoom(a, b api.Block) bool {
	lines := slices.Equal(a.Lines[:cap(a.Lines)], b.Lines[:cap(b.Lines)])
	spans := slices.EqualFunc(a.Spans[:cap(a.Spans)], b.Spans[:cap(b.Spans)], func(x, y api.Span) bool {
		return x.Kind == y.Kind && x.S == y.S && len(x.Kids) == len(y.Kids)
	})
	kids := slices.EqualFunc(a.Kids[:cap(a.Kids)], b.Kids[:cap(b.Kids)], sameWithRoom)
	return a.Kind == b.Kind && a.Level == b.Level && a.Info == b.Info && lines && spans && kids
}
