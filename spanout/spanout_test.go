package spanout

import (
	"math/rand/v2"
	"regexp"
	"slices"
	"strings"
	"testing"

	"emendation/api"
	"emendation/span"
	"emendation/spanin"
)

// text, code, emph and link are spans of a kind each.
func text(s string) api.Span         { return api.Span{Kind: api.Text, S: s} }
func code(s string) api.Span         { return api.Span{Kind: api.Code, S: s} }
func emph(kids ...api.Span) api.Span { return api.Span{Kind: api.Emph, Kids: kids} }
func link(dest string, kids ...api.Span) api.Span {
	return api.Span{Kind: api.Link, S: dest, Kids: kids}
}

// list is a list of spans.
func list(l ...api.Span) []api.Span { return l }

// marked is each byte that a Text has a backslash ahead of.
var marked = regexp.MustCompile("[\\\\*\\[\\]#>\\-`]")

// escapeByWords is s as a Text is written, in the chapter's words.
func escapeByWords(s string) string { return marked.ReplaceAllString(s, `\$0`) }

// ticks are backticks side by side.
var ticks = regexp.MustCompile("`+")

// fenceByWords is how many backticks enclose a Code, in the chapter's words: each number is tried.
func fenceByWords(s string) int {
	runs := ticks.FindAllString(s, -1)
	for n := 1; ; n++ {
		if !slices.Contains(runs, strings.Repeat("`", n)) {
			return n
		}
	}
}

// allSpaces and spaced are what has spaces alone, and what has one at each end.
var (
	allSpaces = regexp.MustCompile(`^ *$`)
	spaced    = regexp.MustCompile(`(?s)^ (.* )?$`)
)

// codeByWords is a Code as it is written, in the chapter's words.
func codeByWords(s string) string {
	fence := strings.Repeat("`", fenceByWords(s))
	if strings.HasPrefix(s, "`") || strings.HasSuffix(s, "`") || spaced.MatchString(s) && !allSpaces.MatchString(s) {
		return fence + " " + s + " " + fence
	}
	return fence + s + fence
}

// writeByWords are spans as they are written, in the chapter's words.
func writeByWords(l []api.Span) string {
	out := ""
	for _, s := range l {
		switch s.Kind {
		case api.Text:
			out += escapeByWords(s.S)
		case api.Code:
			out += codeByWords(s.S)
		case api.Emph:
			out += "*" + writeByWords(s.Kids) + "*"
		case api.Link:
			out += "[" + writeByWords(s.Kids) + "](" + s.S + ")"
		}
	}
	return out
}

// eachOf hands on all texts of at most n of these pieces.
func eachOf(n int, pieces []string, to func(s string)) {
	to("")
	if n == 0 {
		return
	}
	for _, p := range pieces {
		eachOf(n-1, pieces, func(s string) { to(p + s) })
	}
}

// eachList hands on all lists of at most n of these spans.
func eachList(n int, spans []api.Span, to func(l []api.Span)) {
	to(nil)
	if n == 0 {
		return
	}
	for _, s := range spans {
		eachList(n-1, spans, func(l []api.Span) { to(slices.Concat(list(s), l)) })
	}
}

// holdWrite holds Write of a list against the chapter's words, and what is written against reading; it tells whether the list is in normal form.
func holdWrite(t *testing.T, l []api.Span) bool {
	t.Helper()
	got, e := Write(l)
	if !span.Right(l) {
		if got != "" || e != api.ErrForm {
			t.Fatalf("Write(%+v): %q, %v, though it isn't in normal form", l, got, e)
		}
		return false
	}
	if want := writeByWords(l); got != want || e != api.OK {
		t.Fatalf("Write(%+v): %q, %v, not %q", l, got, e, want)
	}
	if back := spanin.Parse(got); !span.Same(back, l) {
		t.Fatalf("%+v is written %q, and read %+v", l, got, back)
	}
	if !spanin.Clean(got) {
		t.Fatalf("%+v is written %q: that isn't clean", l, got)
	}
	return true
}

// example are spans, and how they are written.
type example struct {
	l    []api.Span
	want string
}

// holdExamples holds Write, and the chapter's words, against examples, and what is written against reading.
func holdExamples(t *testing.T, l []example) {
	t.Helper()
	for _, c := range l {
		if got, e := Write(c.l); got != c.want || e != api.OK {
			t.Errorf("Write(%+v): %q, %v, not %q", c.l, got, e, c.want)
		}
		if got := writeByWords(c.l); got != c.want {
			t.Errorf("the chapter's words, of %+v: %q, not %q", c.l, got, c.want)
		}
		holdWrite(t, c.l)
	}
}

// P9.1: the chapter's own examples, and the document's.
func TestWriteOfTheExamples(t *testing.T) {
	holdExamples(t, []example{
		{list(text("a*b"), emph(text("c"))), `a\*b*c*`},
		{list(text("a*b")), `a\*b`},
		{list(text("a "), emph(text("b"))), "a *b*"},
		{nil, ""},
		{[]api.Span{}, ""},
	})
}

// P9.1: Texts.
func TestWriteOfTexts(t *testing.T) {
	holdExamples(t, []example{
		{list(text("a b\nc")), "a b\nc"},
		{list(text(`\`)), `\\`},
		{list(text(`\\a`)), `\\\\a`},
		{list(text("*a*")), `\*a\*`},
		{list(text("[a](x)")), `\[a\](x)`},
		{list(text("# a\n## b")), "\\# a\n\\#\\# b"},
		{list(text("> a\n- b\n---")), "\\> a\n\\- b\n\\-\\-\\-"},
		{list(text("`a`` b")), "\\`a\\`\\` b"},
		{list(text("1. a, b! <c_~+=|")), "1. a, b! <c_~+=|"},
		{list(text("é-€")), `é\-€`},
	})
}

// P9.1: Codes.
func TestWriteOfCodes(t *testing.T) {
	holdExamples(t, []example{
		{list(code("a")), "`a`"},
		{list(code("a b")), "`a b`"},
		{list(code(`\*[]#>-`)), "`\\*[]#>-`"},
		{list(code("[a](x)")), "`[a](x)`"},
		{list(code("é")), "`é`"},
		{list(code("a`b")), "``a`b``"},
		{list(code("a``b")), "`a``b`"},
		{list(code("a`b``c")), "```a`b``c```"},
		{list(code("a``b```c")), "`a``b```c`"},
		{list(code("a`b```c")), "``a`b```c``"},
		{list(code("`")), "`` ` ``"},
		{list(code("``")), "` `` `"},
		{list(code("`a")), "`` `a ``"},
		{list(code("a`")), "`` a` ``"},
		{list(code("``a")), "` ``a `"},
		{list(code("` ")), "`` `  ``"},
		{list(code(" `")), "``  ` ``"},
		{list(code(" ` ")), "``  `  ``"},
		{list(code(" ")), "` `"},
		{list(code("   ")), "`   `"},
		{list(code(" a")), "` a`"},
		{list(code("a ")), "`a `"},
		{list(code(" a ")), "`  a  `"},
		{list(code("  a  ")), "`   a   `"},
		{list(code("\ta\t")), "`\ta\t`"},
		{list(code(" \t ")), "`  \t  `"},
		{list(code("\t")), "`\t`"},
		{list(code(" a\t")), "` a\t`"},
		{list(text("a "), code("b"), text(" c")), "a `b` c"},
		{list(text("`"), code("a"), text("`")), "\\``a`\\`"},
		{list(text(`\`), code("a"), text(`\`)), "\\\\`a`\\\\"},
		{list(code(`\`), text("`")), "`\\`\\`"},
		{list(text("a\n"), code("b"), text("\nc")), "a\n`b`\nc"},
	})
}

// P9.1: Emphs and Links.
func TestWriteOfEmphsAndLinks(t *testing.T) {
	holdExamples(t, []example{
		{list(emph(text("a"))), "*a*"},
		{list(emph(text(" a\n"))), "* a\n*"},
		{list(emph(text("\n"))), "*\n*"},
		{list(emph(text("*"))), `*\**`},
		{list(emph(code("*"))), "*`*`*"},
		{list(emph(text("a")), emph(text("b"))), "*a**b*"},
		{list(emph(text(" ")), text(" "), emph(text(" "))), "* * * *"},
		{list(link("x", text("a"))), "[a](x)"},
		{list(link("/a-b_c#d?e&f:g%20.h", text("a"))), "[a](/a-b_c#d?e&f:g%20.h)"},
		{list(link("--", text("]"))), `[\]](--)`},
		{list(link("x", code("]("))), "[`](`](x)"},
		{list(link("x", text("a")), link("y", text("b"))), "[a](x)[b](y)"},
		{list(link("x", text("a")), text("(y)")), "[a](x)(y)"},
		{list(link("x", emph(text("a")), code("b"))), "[*a*`b`](x)"},
		{list(emph(link("x", text("a")), code("b"))), "*[a](x)`b`*"},
		{list(emph(link("x", text("a"))), link("y", emph(text("b")))), "*[a](x)*[*b*](y)"},
		{list(text("[a]"), link("x", text("b")), text("](y)")), `\[a\][b](x)\](y)`},
		{list(link("x", text("a\n")), text("\nb")), "[a\n](x)\nb"},
	})
}

// P9.1: what isn't in normal form isn't written.
func TestWriteOfWrongSpans(t *testing.T) {
	for _, l := range [][]api.Span{
		list(api.Span{}),
		list(api.Span{Kind: -1, S: "a"}),
		list(api.Span{Kind: 5, S: "a", Kids: list(text("a"))}),
		list(api.Span{Kind: 1<<32 + 1, S: "a"}),
		list(text("")),
		list(text(" a")),
		list(text("a\t")),
		list(text("\na")),
		list(text("a\n")),
		list(text("a\n\nb")),
		list(text("a \nb")),
		list(text("a\rb")),
		list(text("\xff")),
		list(text("a\x00")),
		list(text("a"), text("b")),
		list(code("a"), code("b")),
		list(code("")),
		list(code("a\nb")),
		list(code("\r")),
		list(emph()),
		list(emph(emph(text("a")))),
		list(emph(link("x", emph(text("a"))))),
		list(link("x")),
		list(link("", text("a"))),
		list(link("x y", text("a"))),
		list(link("x)", text("a"))),
		list(link("x", link("y", text("a")))),
		list(api.Span{Kind: api.Text, S: "a", Kids: list(text("b"))}),
		list(api.Span{Kind: api.Code, S: "a", Kids: list(text("b"))}),
		list(api.Span{Kind: api.Emph, S: "a", Kids: list(text("b"))}),
		list(emph(text("a"), text("b"))),
		list(emph(text("a")), text("b "), emph(text("")), text("c")),
		list(text("a"), code("b"), text("c ")),
		list(text(strings.Repeat("a", api.MaxText+1))),
	} {
		if got, e := Write(l); got != "" || e != api.ErrForm {
			t.Errorf("Write(%.80q): %.80q, %v", span.Plain(l), got, e)
		}
	}
}

// P9.1: Escape, of each byte.
func TestEscapeOfAllBytes(t *testing.T) {
	for b := range 256 {
		c := string([]byte{byte(b)})
		want := c
		if strings.Contains("\\*[]#>-`", c) {
			want = `\` + c
		}
		for _, ends := range [][2]string{{"", ""}, {"a", "b"}, {" ", "\n"}, {"é", "é"}} {
			if got := Escape(ends[0] + c + ends[1]); got != ends[0]+want+ends[1] {
				t.Errorf("Escape(%q): %q", ends[0]+c+ends[1], got)
			}
		}
	}
}

// P9.1: Escape is how a Text is written, of whatever bytes, also such as no Text may have; and what is escaped is read as it was.
func TestEscapeOfShortTexts(t *testing.T) {
	hold := func(s string) {
		got := Escape(s)
		if want := escapeByWords(s); got != want {
			t.Fatalf("Escape(%q): %q, not %q", s, got, want)
		}
		if s != "" && !span.Same(spanin.Parse(got), list(text(s))) {
			t.Fatalf("%q is escaped as %q, and read %+v", s, got, spanin.Parse(got))
		}
	}
	eachOf(5, []string{"a", " ", "\n", "\\", "*", "[", "]", "#", ">", "-", "`"}, hold)
	eachOf(3, []string{"\r", "\n\n", "\t", "\x00", "\xff", "é", "\xe2", "(x)", "!", "_", "*", "`"}, hold)
	if Escape("") != "" {
		t.Error("Escape of no bytes")
	}
}

// P9.1: Fence.
func TestFence(t *testing.T) {
	for _, c := range []struct {
		s    string
		want int
	}{
		{"", 1},
		{"a", 1},
		{"'\\´", 1},
		{"`", 2},
		{"``", 1},
		{"a`b", 2},
		{"a`", 2},
		{"`a", 2},
		{"`a``", 3},
		{"``a`", 3},
		{"`a`b`", 2},
		{"`a```", 2},
		{"```a``", 1},
		{"```a``b`", 4},
		{"`a\n``\n```", 4},
		{"`\\``", 3},
		{"`\x00``\xff````", 3},
		{"`é``é```é````", 5},
		{strings.Repeat("`", 100), 1},
	} {
		if got := Fence(c.s); got != c.want {
			t.Errorf("Fence(%q): %d, not %d", c.s, got, c.want)
		}
		if got := fenceByWords(c.s); got != c.want {
			t.Errorf("the chapter's words, of %q: %d, not %d", c.s, got, c.want)
		}
	}
}

// P9.1: Fence of all short texts, held against the chapter's words.
func TestFenceOfShortTexts(t *testing.T) {
	eachOf(9, []string{"`", "a", "``"}, func(s string) {
		if got := Fence(s); got != fenceByWords(s) {
			t.Fatalf("Fence(%q): %d", s, got)
		}
	})
}

// P9.1, P9.2: Codes, Texts and their neighbours, of all short texts.
func TestWriteOfShortTexts(t *testing.T) {
	rights := 0
	hold := func(l []api.Span) {
		if holdWrite(t, l) {
			rights++
		}
	}
	eachOf(5, []string{"a", " ", "\t", "\n", "`", "\\", "*", "]"}, func(s string) {
		hold(list(text(s)))
		hold(list(code(s)))
		hold(list(emph(text(s))))
		hold(list(link("x", code(s))))
		hold(list(code("`"), text(s), code(`\`)))
		hold(list(text("`"), code(s), text("`")))
	})
	if rights < 100000 {
		t.Errorf("only %d were right", rights)
	}
}

// trees are spans with kids, at most two deep in one another, of these spans without any.
func trees(flat []api.Span) []api.Span {
	out := slices.Clone(flat)
	eachList(2, flat, func(l []api.Span) {
		out = append(out, emph(l...), link("x", l...), emph(link("y", l...)), link("z", emph(l...)), emph(text("b"), link("y", l...)), link("z", emph(l...), code("c")))
	})
	return out
}

// P9.1, P9.2: all small trees.
func TestWriteOfSmallTrees(t *testing.T) {
	rights := 0
	hold := func(l []api.Span) {
		if holdWrite(t, l) {
			rights++
		}
	}
	small := list(text("a"), text("`"), text("\n"), text(" "), code("`"), code("]"), code(" "))
	eachList(2, trees(small), hold)
	eachList(3, trees(list(text("*]("), text("\nb"), code("*")))[:40], hold)
	eachList(5, list(text("a"), text("\\"), code("b"), emph(text("*")), link("-", text("]"))), hold)
	if rights < 40000 {
		t.Errorf("only %d were right", rights)
	}
}

// someSpans are mixed spans, most of them in normal form, at most deep in one another.
func someSpans(r *rand.Rand, deep int) []api.Span {
	var l []api.Span
	for range 1 + r.IntN(4) {
		switch kind := 1 + r.IntN(4); {
		case kind == api.Text || deep == 0:
			l = append(l, text(someText(r, "ab  *[]()#>-\\`\n\té")))
		case kind == api.Code:
			l = append(l, code(someText(r, "a `` *]\\(é\t")))
		case kind == api.Emph:
			l = append(l, emph(someSpans(r, deep-1)...))
		default:
			l = append(l, link("a/b", someSpans(r, deep-1)...))
		}
	}
	return l
}

// someText is a text of some of these characters.
func someText(r *rand.Rand, of string) string {
	c := []rune(of)
	out := make([]rune, 1+r.IntN(8))
	for i := range out {
		out[i] = c[r.IntN(len(c))]
	}
	return string(out)
}

// P9.1, P9.2: mixed trees.
func TestWriteOfMixedTrees(t *testing.T) {
	r := rand.New(rand.NewPCG(9, 1))
	rights := 0
	for range 200000 {
		if holdWrite(t, someSpans(r, 2)) {
			rights++
		}
	}
	if rights < 10000 {
		t.Errorf("only %d were right", rights)
	}
}

// holdReading holds what is read of a clean text against what is read of it written; it tells whether the text is clean.
func holdReading(t *testing.T, s string) bool {
	t.Helper()
	if !spanin.Clean(s) {
		return false
	}
	l := spanin.Parse(s)
	written, e := Write(l)
	if e != api.OK {
		t.Fatalf("%q is read %+v, and not written: %v", s, l, e)
	}
	if back := spanin.Parse(written); !span.Same(back, l) {
		t.Fatalf("%q is read %+v, but written %q and read %+v", s, l, written, back)
	}
	if again, _ := Write(spanin.Parse(written)); again != written {
		t.Fatalf("%q is written %q, and that is written %q", s, written, again)
	}
	return true
}

// P9.2: what is read of a clean text, and written, is read as that: all short texts.
func TestReadingOfShortTexts(t *testing.T) {
	cleans := 0
	eachOf(5, []string{"a", " ", "\n", "\\", "*", "`", "[", "](x)", "]", "#", "``"}, func(s string) {
		if holdReading(t, s) {
			cleans++
		}
	})
	if cleans < 10000 {
		t.Errorf("only %d were clean", cleans)
	}
}

// P9.2: mixed texts.
func TestReadingOfMixedTexts(t *testing.T) {
	pieces := []string{"a", "b", "é", " ", "  ", "\t", "\n", "\\", "*", "**", "`", "``", "[", "]", "](x)", "(y)", "#", ">", "-", "` ", " `", "\\`", "\\*"}
	r := rand.New(rand.NewPCG(9, 2))
	cleans := 0
	for range 200000 {
		s := ""
		for range 1 + r.IntN(20) {
			s += pieces[r.IntN(len(pieces))]
		}
		if holdReading(t, s) {
			cleans++
		}
	}
	if cleans < 20000 {
		t.Errorf("only %d were clean", cleans)
	}
}

// R3: what lies behind a list's length isn't read, and nothing is changed.
func TestListsStay(t *testing.T) {
	kids := list(code("d"), emph(), text("e"))
	whole := list(emph(kids[:1]...), text("b"), text("c\n"), api.Span{Kind: 9})
	whole[0].Kids = kids[:1]
	for _, c := range []struct {
		n    int
		want string
		e    api.Errno
	}{{0, "", api.OK}, {1, "*`d`*", api.OK}, {2, "*`d`*b", api.OK}, {3, "", api.ErrForm}, {4, "", api.ErrForm}} {
		if got, e := Write(whole[:c.n]); got != c.want || e != c.e {
			t.Errorf("Write of %d spans: %q, %v", c.n, got, e)
		}
	}
	if !span.Same(whole, list(emph(code("d")), text("b"), text("c\n"), api.Span{Kind: 9})) || !span.Same(kids, list(code("d"), emph(), text("e"))) {
		t.Error("a list was changed")
	}
}

// R4: no kids are alike, nil or not.
func TestEmptyKids(t *testing.T) {
	if got, e := Write(list(api.Span{Kind: api.Text, S: "a", Kids: []api.Span{}})); got != "a" || e != api.OK {
		t.Errorf("%q, %v", got, e)
	}
	if got, e := Write(list(api.Span{Kind: api.Emph, Kids: []api.Span{}})); got != "" || e != api.ErrForm {
		t.Errorf("%q, %v", got, e)
	}
}

// R1, and the document's bound: spans that are deep in one another.
func TestWriteOfDeepSpans(t *testing.T) {
	in := text("a")
	for i := range 1<<16 - 1 {
		if i%2 == 0 {
			in = emph(in)
		} else {
			in = link("x", in)
		}
	}
	if got, e := Write(list(in)); got != "" || e != api.ErrForm {
		t.Errorf("%.80q, %v", got, e)
	}
}

// R1: great texts, and great lists. (What is written may have more than MaxText bytes.)
func TestWriteOfGreatLists(t *testing.T) {
	stars := strings.Repeat("*", api.MaxText)
	l := list(text(stars), code(stars), emph(text(stars)), link("x", code(strings.Repeat("`a", api.MaxText/2))))
	for range 1 << 16 {
		l = append(l, text("a`\n"), code("b`"), emph(text("c"), link("d", text("e"))))
	}
	var want strings.Builder
	want.WriteString(strings.Repeat(`\*`, api.MaxText) + "`" + stars + "`*" + strings.Repeat(`\*`, api.MaxText) + "*[`` " + strings.Repeat("`a", api.MaxText/2) + " ``](x)")
	want.WriteString(strings.Repeat("a\\`\n`` b` ``*c[e](d)*", 1<<16))
	got, e := Write(l)
	if got != want.String() || e != api.OK {
		t.Errorf("%d bytes, %v, not %d", len(got), e, want.Len())
	}
	if !span.Same(spanin.Parse(got), l) {
		t.Error("a great list isn't read as it was written")
	}
}

// R1: backticks that might be counted again and again.
func TestFenceOfGreatTexts(t *testing.T) {
	var longer strings.Builder
	for n := 1; n <= 1400; n++ {
		longer.WriteString("a" + strings.Repeat("`", n))
	}
	for _, c := range []struct {
		name string
		s    string
		want int
	}{
		{"side by side", strings.Repeat("`", 4*api.MaxText), 1},
		{"each alone", strings.Repeat("`a", api.MaxText), 2},
		{"one more each", longer.String(), 1401},
		{"none", strings.Repeat("a", 4*api.MaxText), 1},
	} {
		if got := Fence(c.s); got != c.want {
			t.Errorf("%s: %d, not %d", c.name, got, c.want)
		}
	}
}

// P9.2: a text of MaxText bytes.
func TestReadingOfGreatTexts(t *testing.T) {
	for _, piece := range []string{"*a*", "[a](x)", "a\n#", "``a`"} {
		s := strings.Repeat(piece, api.MaxText/len(piece))
		if !holdReading(t, s) {
			t.Errorf("many %q aren't clean", piece)
		}
	}
}
