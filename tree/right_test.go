package tree

import (
	"math"
	"math/rand/v2"
	"slices"
	"strings"
	"testing"

	"emendation/api"
)

// P10.1: what is in normal form, and what isn't, at each edge that the chapter names.
func TestRight(t *testing.T) {
	for _, c := range []struct {
		l    []api.Block
		want bool
	}{
		{nil, true},
		{list(), true},
		{list(para(text("a b"))), true},
		{list(para(text("a\nb"))), true},
		{list(para(codeSpan(" a "), emph(text(" b ")))), true},
		{list(para()), false},
		{list(para(text(""))), false},
		{list(para(text(" a"))), false},
		{list(para(text("a\n"))), false},
		{list(para(text("a"), text("b"))), false},
		{list(para(emph(emph(text("a"))))), false},
		{list(para(text("a\x00"))), false},
		{list(para(text("a\xff"))), false},
		{list(para(text("a")), para(text("a"))), true},
		{list(heading(1)), true},
		{list(heading(6)), true},
		{list(heading(1, text("a"))), true},
		{list(heading(3, text("a "), codeSpan("b"))), true},
		{list(heading(0, text("a"))), false},
		{list(heading(0)), false},
		{list(heading(7, text("a"))), false},
		{list(heading(-1, text("a"))), false},
		{list(heading(math.MaxInt)), false},
		{list(heading(math.MinInt)), false},
		{list(heading(1<<32+1, text("a"))), false},
		{list(heading(1, text("a\nb"))), false},
		{list(heading(1, codeSpan("a"), emph(text("\n")))), false},
		{list(heading(1, text("a "))), false},
		{list(heading(1, emph())), false},
		{list(heading(1), heading(1)), true},
		{list(rule), true},
		{list(rule, rule), true},
		{list(fence("")), true},
		{list(fence("", "")), true},
		{list(fence("go")), true},
		{list(fence("go run", "a", "", " b\t", "```", "\\*")), true},
		{list(fence("a[]\\é")), true},
		{list(fence(" a")), false},
		{list(fence("a ")), false},
		{list(fence("\ta")), false},
		{list(fence("a\t")), false},
		{list(fence(" ")), false},
		{list(fence("a`")), false},
		{list(fence("a`b")), false},
		{list(fence("a\nb")), false},
		{list(fence("a\r")), false},
		{list(fence("\x00")), false},
		{list(fence("\xff")), false},
		{list(fence("", "a\nb")), false},
		{list(fence("", "a\r")), false},
		{list(fence("", "a", "\n")), false},
		{list(fence("", "a", "\x00")), false},
		{list(fence("", "\xc3", "a")), false},
		{list(fence(""), fence("")), true},
		{list(quote()), true},
		{list(quote(), quote()), true},
		{list(quote(rule, para(text("a")))), true},
		{list(quote(quote())), true},
		{list(quote(para())), false},
		{list(quote(item())), false},
		{list(quote(items(item()))), true},
		{list(items()), false},
		{list(items(item())), true},
		{list(items(item(), item(rule), item())), true},
		{list(items(item(item()))), false},
		{list(items(item(items(item())))), true},
		{list(items(item(quote(), rule))), true},
		{list(items(item(para()))), false},
		{list(items(rule)), false},
		{list(items(item(), rule)), false},
		{list(items(rule, item())), false},
		{list(items(items(item()))), false},
		{list(items(item(), items(item()))), false},
		{list(items(quote(item()))), false},
		{list(items(quote())), false},
		{list(item()), false},
		{list(item(rule)), false},
		{list(rule, item()), false},
		{list(items(item()), items(item())), false},
		{list(rule, items(item()), items(item())), false},
		{list(items(item()), rule, items(item())), true},
		{list(items(item()), quote(), items(item())), true},
		{list(items(item()), items()), false},
		{list(quote(items(item()), items(item()))), false},
		{list(items(item(items(item()), items(item())))), false},
		{list(items(item(items(item())), item(items(item())))), true},
		{list(quote(items(item())), items(item()), quote(items(item()))), true},
		{list(def("a", "b")), true},
		{list(def("a b", "https://c.d/e?f&g#h:80%20")), true},
		{list(def("*`a`*", "#")), true},
		{list(def("a", "b"), def("a", "b")), true},
		{list(def("", "b")), false},
		{list(def(" a", "b")), false},
		{list(def("a ", "b")), false},
		{list(def("a[", "b")), false},
		{list(def("a")), false},
		{list(def("a", "")), false},
		{list(def("a", "b c")), false},
		{list(def("a", "é")), false},
		{list(def("a", "b", "c")), false},
		{list(def("a", "b", "")), false},
		{list(def("a\xff", "b")), false},
		{list(rule, para()), false},
		{list(para(), rule), false},
		{list(api.Block{}), false},
	} {
		if got := Right(c.l); got != c.want {
			t.Errorf("Right(%+v): %v", c.l, got)
		}
		if rightByWords(c.l) != c.want {
			t.Errorf("the chapter's words, of %+v: not %v", c.l, c.want)
		}
	}
}

// P10.1, R4: what a kind doesn't use is 0 or empty, and empty is alike, nil or not.
func TestRightOfWhatIsNotUsed(t *testing.T) {
	put := map[string]func(b *api.Block){
		"L": func(b *api.Block) { b.Level = 1 },
		"I": func(b *api.Block) { b.Info = "a" },
		"n": func(b *api.Block) { b.Lines = []string{"a"} },
		"S": func(b *api.Block) { b.Spans = []api.Span{text("a")} },
		"K": func(b *api.Block) { b.Kids = list(rule) },
	}
	for _, b := range list(para(text("x")), heading(2, text("x")), rule, fence("x", "y"), quote(rule), items(item()), def("x", "y")) {
		for what, change := range put {
			own := b
			change(&own)
			want := strings.Contains(uses[b.Kind], what)
			if b.Kind == api.List {
				want = false // its Kids are Items, and no Rule
			}
			for _, l := range [][]api.Block{list(own), list(quote(own)), list(items(item(own)))} {
				if got := Right(l); got != want {
					t.Errorf("Right(%+v): %v", l, got)
				}
			}
		}
		own := b
		if own.Lines == nil {
			own.Lines = make([]string, 0, 2)
		}
		if own.Spans == nil {
			own.Spans = []api.Span{}
		}
		if own.Kids == nil {
			own.Kids = list()[:0:0]
		}
		if !Right(list(own)) || !Same(list(own), list(b)) {
			t.Errorf("%#v isn't right with empty lists that aren't nil", b)
		}
	}
	for _, kids := range [][]api.Block{nil, {}} {
		if Right(list(items(kids...))) || !Right(list(quote(kids...))) || !Right(list(items(item(kids...)))) {
			t.Errorf("Right with Kids %#v", kids)
		}
	}
	if Right(list(items(api.Block{Kind: api.Item, Level: 1}))) || Right(list(items(api.Block{Kind: api.Item, Info: "a"}))) {
		t.Error("an Item with what it doesn't use is right")
	}
}

// P10.1: what a kind doesn't use is 0 also where it is neither 1 nor greater.
func TestRightOfLevels(t *testing.T) {
	for _, k := range kinds {
		for _, level := range []int{math.MinInt, -1, 0, 1, 6, 7, 1 << 32, math.MaxInt} {
			for _, b := range blocksOf([]int{k}, [][]api.Block{nil, list(rule), list(item())}) {
				b.Level = level
				holdRight(t, list(b))
				holdRight(t, list(items(b)))
			}
		}
	}
}

// P10.1: each block's kind is one of eight, wherever it stands.
func TestRightOfKinds(t *testing.T) {
	for _, b := range blocksOf(noKinds, [][]api.Block{nil, list(rule), list(item())}) {
		for _, l := range [][]api.Block{list(b), list(rule, b), list(b, rule), list(quote(b)), list(items(b)), list(items(item(rule, b)))} {
			if Right(l) {
				t.Errorf("Right(%+v)", l)
			}
		}
	}
}

// P10.1: all small trees of blocks of all kinds, and of two that are none, held against the chapter's words.
func TestRightOfSmallTrees(t *testing.T) {
	some := slices.Concat(kinds, []int{0, 9})
	flat := blocksOf(some, [][]api.Block{nil})
	second := blocksOf(some, listsOf(2, list(rule, item(), quote(), items(item()), items(), para())))
	third := blocksOf(some[:8], listsOf(2, list(rule, items(item()), item(rule), item(item()), item(items(item())), quote(item()), items(item(), rule))))
	rights := 0
	for _, l := range slices.Concat(listsOf(2, flat), listsOf(1, second), listsOf(1, third)) {
		if holdRight(t, l) {
			rights++
		}
	}
	if rights < 100 {
		t.Errorf("only %d were right", rights)
	}
}

// P10.1: all lists of up to four containers and others, held against the chapter's words: Lists side by side.
func TestRightOfNeighbours(t *testing.T) {
	near := list(rule, items(item()), items(item(rule)), quote(items(item())), item(), para(text("a")))
	for _, l := range listsOf(4, near) {
		holdRight(t, l)
		holdRight(t, list(quote(l...)))
		holdRight(t, list(items(item(l...), item())))
	}
}

// P10.1: mixed trees, held against the chapter's words.
func TestRightOfMixedTrees(t *testing.T) {
	r := rand.New(rand.NewPCG(10, 1))
	rights, wrongs := 0, 0
	for range 50000 {
		l := someBlocks(r, 4, false)
		if holdRight(t, l) {
			rights += min(1, len(l))
		} else {
			wrongs++
		}
	}
	if rights < 5000 || wrongs < 5000 {
		t.Errorf("only %d were right, %d wrong", rights, wrongs)
	}
}

// P10.1: at most MaxDeep containers lie one in the other, whichever they are.
func TestRightOfDeepContainers(t *testing.T) {
	for n := api.MaxDeep - 2; n <= api.MaxDeep+2; n++ {
		want := n <= api.MaxDeep
		for _, within := range nestings(n) {
			for _, in := range [][]api.Block{nil, {rule, para(text("a"))}} {
				l := nested(within, in...)
				if got := Right(l); got != want {
					t.Fatalf("Right of %v, one in the other: %v", within, got)
				}
			}
		}
		deep := nested(nestings(n)[0], rule)
		for _, l := range [][]api.Block{slices.Concat(list(rule, quote(), items(item())), deep), slices.Concat(deep, list(quote(quote())), deep)} {
			if got := Right(l); got != want {
				t.Errorf("Right of %d containers one in the other, and others beside: %v", n, got)
			}
		}
	}
	full := nested(nestings(api.MaxDeep)[0])
	if !Right(slices.Repeat(full, 100)) {
		t.Error("containers as deep as may be, side by side, aren't right")
	}
}

// P10.1, and the chapter's words for a Fence: all short texts as an Info, as a line alone, and as one of others.
func TestRightOfShortFences(t *testing.T) {
	for _, s := range stringsOf(5, "a", " ", "\t", "\n", "\r", "`", "é") {
		for _, l := range [][]api.Block{list(fence(s)), list(fence("", s)), list(fence("a", "", s, "b")), list(fence(s, s))} {
			holdRight(t, l)
		}
	}
}

// P10.1, and the chapter's words for a Def: all short texts as a label, and as the place.
func TestRightOfShortDefs(t *testing.T) {
	for _, s := range stringsOf(4, "a", "/", " ", "\t", "\n", "\r", "[", "]", "\\", "`", "é") {
		for _, l := range [][]api.Block{list(def(s, "a")), list(def("a", s)), list(def("a", "a", s))} {
			holdRight(t, l)
		}
	}
}

// P10.1: texts with any two bytes, and with pieces of characters, held against the chapter's words.
func TestRightOfBytes(t *testing.T) {
	for a := range 256 {
		for b := range 256 {
			s := string([]byte{byte(a), byte(b)})
			for _, l := range [][]api.Block{list(fence(s)), list(fence("", s)), list(def(s, "a")), list(def("a", s)), list(para(text(s))), list(heading(1, codeSpan(s)))} {
				holdRight(t, l)
			}
		}
	}
	for _, s := range stringsOf(4, "\xe2", "\x82", "\xac", "\xed", "\xa0", "a") {
		holdRight(t, list(fence(s, "a", s)))
		holdRight(t, list(def(s, "a")))
	}
}

// P10.1, and the document's word 'text': a text of MaxText bytes is one, and a longer one isn't.
func TestRightOfLongTexts(t *testing.T) {
	full := strings.Repeat("a", api.MaxText)
	for _, c := range []struct {
		name string
		of   func(s string) api.Block
	}{
		{"a Para", func(s string) api.Block { return para(text(s)) }},
		{"a Heading", func(s string) api.Block { return heading(1, text(s)) }},
		{"an Info", func(s string) api.Block { return fence(s) }},
		{"a line of code", func(s string) api.Block { return fence("", "a", s) }},
		{"a label", func(s string) api.Block { return def(s, "a") }},
		{"a place", func(s string) api.Block { return def("a", s) }},
	} {
		for _, in := range []func(b api.Block) []api.Block{
			func(b api.Block) []api.Block { return list(b) },
			func(b api.Block) []api.Block { return list(quote(items(item(b)))) },
		} {
			if !Right(in(c.of(full))) {
				t.Errorf("%s of MaxText bytes isn't right", c.name)
			}
			if Right(in(c.of(full + "a"))) {
				t.Errorf("%s of one more is right", c.name)
			}
		}
	}
	if !Right(list(fence(full, full, full), para(text(full)))) {
		t.Error("several full texts aren't right")
	}
}

// P10.1: whether a text can be a definition's label: the edges that the chapter names.
func TestLabel(t *testing.T) {
	full := strings.Repeat("a", api.MaxText)
	for _, c := range []struct {
		s    string
		want bool
	}{
		{"a", true},
		{"a b", true},
		{"a\tb", true},
		{"*", true},
		{"`a`", true},
		{"(a)", true},
		{"é", true},
		{"\u00a0", true},
		{"\x01\x0b\x7f", true},
		{full, true},
		{"", false},
		{" ", false},
		{" a", false},
		{"a ", false},
		{"\ta", false},
		{"a\t", false},
		{"[", false},
		{"a]", false},
		{"\\a", false},
		{"a\nb", false},
		{"a\rb", false},
		{"a\r\nb", false},
		{"\n", false},
		{"a\x00", false},
		{"\xff", false},
		{"é\xc3", false},
		{"\xed\xa0\x80", false},
		{full + "a", false},
	} {
		if got := Label(c.s); got != c.want {
			t.Errorf("Label of %d bytes, %.40q: %v", len(c.s), c.s, got)
		}
	}
}

// P10.1: each byte in each place of a label, and all short texts, held against the chapter's words.
func TestLabelOfShortTexts(t *testing.T) {
	for b := range 256 {
		c := string([]byte{byte(b)})
		inside := b < 0x80 && b != 0 && !strings.Contains("[]\\\n\r", c)
		if got := Label("a" + c + "a"); got != inside {
			t.Errorf("Label with the byte %d inside: %v", b, got)
		}
		for _, s := range []string{c, c + "a", "a" + c} {
			if got := Label(s); got != (inside && c != " " && c != "\t") {
				t.Errorf("Label(%q): %v", s, got)
			}
		}
	}
	for _, s := range stringsOf(5, "a", " ", "\t", "[", "\n", "é", "`") {
		want := labelByWords.MatchString(s)
		if got := Label(s); got != want {
			t.Errorf("Label(%q): %v", s, got)
		}
	}
}

// P10.3: what stands in a Quote in normal form is in normal form; what is, but for the number of containers, can be put in one.
func TestInAQuote(t *testing.T) {
	r := rand.New(rand.NewPCG(10, 3))
	lists := listsOf(3, slices.Concat(leaves, list(para(), items(), item(), quote(), quote(rule), items(item()), items(item(rule), item()))))
	for range 20000 {
		lists = append(lists, someBlocks(r, 5, false))
	}
	for n := range api.MaxDeep + 3 {
		for _, within := range nestings(n) {
			lists = append(lists, nested(within, rule))
		}
	}
	rights, tooDeep := 0, 0
	for _, l := range lists {
		alone, within := Right(l), Right(list(quote(l...)))
		if within && !alone {
			t.Fatalf("in a Quote it is in normal form, alone it isn't: %+v", l)
		}
		if want := alone && Deep(l) < api.MaxDeep; within != want {
			t.Fatalf("Right in a Quote: %v, though alone %v, of %d containers: %+v", within, alone, Deep(l), l)
		}
		if within {
			rights++
		} else if alone {
			tooDeep++
		}
	}
	if rights < 5000 || tooDeep < 100 {
		t.Errorf("only %d were right in a Quote, %d too deep for one", rights, tooDeep)
	}
}
