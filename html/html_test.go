package html

import (
	unescape "html"
	"math"
	"math/rand/v2"
	"slices"
	"strings"
	"testing"

	"emendation/api"
	"emendation/parse"
	"emendation/tree"
)

// text, code, emph and link are spans of a kind each.
func text(s string) api.Span         { return api.Span{Kind: api.Text, S: s} }
func code(s string) api.Span         { return api.Span{Kind: api.Code, S: s} }
func emph(kids ...api.Span) api.Span { return api.Span{Kind: api.Emph, Kids: kids} }
func link(to string, kids ...api.Span) api.Span {
	return api.Span{Kind: api.Link, S: to, Kids: kids}
}

// para, heading, rule, fence, quote, list, item and def are blocks of a kind each.
func para(l ...api.Span) api.Block { return api.Block{Kind: api.Para, Spans: l} }
func heading(level int, l ...api.Span) api.Block {
	return api.Block{Kind: api.Heading, Level: level, Spans: l}
}
func fence(info string, l ...string) api.Block {
	return api.Block{Kind: api.Fence, Info: info, Lines: l}
}
func quote(kids ...api.Block) api.Block { return api.Block{Kind: api.Quote, Kids: kids} }
func list(kids ...api.Block) api.Block  { return api.Block{Kind: api.List, Kids: kids} }
func item(kids ...api.Block) api.Block  { return api.Block{Kind: api.Item, Kids: kids} }
func def(label string, to ...string) api.Block {
	return api.Block{Kind: api.Def, Info: label, Lines: to}
}

var rule = api.Block{Kind: api.Rule}

// word is a Para of one Text.
func word(s string) api.Block { return para(text(s)) }

// spans and blocks are lists of these.
func spans(l ...api.Span) []api.Span    { return l }
func blocks(l ...api.Block) []api.Block { return l }

// P14.1: in the places of four bytes there are others, and all else stays.
func TestEscape(t *testing.T) {
	for _, c := range []struct{ s, want string }{
		{"", ""}, {"a", "a"}, {" a\tb\r\nc ", " a\tb\r\nc "},
		{"&", "&amp;"}, {"<", "&lt;"}, {">", "&gt;"}, {`"`, "&quot;"}, {"'", "'"}, {"`", "`"},
		{"a<b", "a&lt;b"}, {"<a", "&lt;a"}, {"a>", "a&gt;"}, {`a="b"`, "a=&quot;b&quot;"},
		{"&&", "&amp;&amp;"}, {"&amp;", "&amp;amp;"}, {"&lt;&quot", "&amp;lt;&amp;quot"}, {`<">&`, "&lt;&quot;&gt;&amp;"},
		{"é<日本", "é&lt;日本"}, {"\x00<\x00", "\x00&lt;\x00"}, {"\xff<\xc3>\xc3", "\xff&lt;\xc3&gt;\xc3"},
	} {
		if got := Escape(c.s); got != c.want {
			t.Errorf("Escape(%q): %q, not %q", c.s, got, c.want)
		}
	}
	for c := range 256 {
		holdText(t, string([]byte{byte(c)}))
		holdText(t, string([]byte{'<', byte(c), byte(c), 'a'}))
	}
	for _, s := range shortTexts(6, `&<>"a;`) {
		holdText(t, s)
	}
}

// holdText holds Escape against the chapter's words, and against reading, and all places in which a text is shown against Escape.
func holdText(t *testing.T, s string) {
	t.Helper()
	got := Escape(s)
	if want := signs.Replace(s); got != want {
		t.Fatalf("Escape(%q): %q, not %q", s, got, want)
	}
	if back := unescape.UnescapeString(got); back != s {
		t.Fatalf("Escape(%q): %q, which is read as %q", s, got, back)
	}
	if strings.ContainsAny(got, `<>"`) {
		t.Fatalf("Escape(%q): %q", s, got)
	}
	inLine := got + "<code>" + got + `</code><a href="` + got + `">` + got + "</a>"
	if shown := Spans(spans(text(s), code(s), link(s, text(s)))); shown != inLine {
		t.Fatalf("Spans of %q: %q, not %q", s, shown, inLine)
	}
	inCode := `<pre><code class="language-x` + got + `">` + got + "\n</code></pre>\n"
	if shown := Blocks(blocks(fence("x"+s, s))); strings.IndexByte(s, ' ') < 0 && shown != inCode {
		t.Fatalf("Blocks of a Fence of %q: %q, not %q", s, shown, inCode)
	}
}

// shortTexts is all texts of at most n of some bytes.
func shortTexts(n int, bytes string) []string {
	out := []string{""}
	for from := 0; n > 0; n-- {
		to := len(out)
		for _, s := range out[from:to] {
			for i := range len(bytes) {
				out = append(out, s+bytes[i:i+1])
			}
		}
		from = to
	}
	return out
}

// P14.1: what each kind of span is shown as; of another kind nothing is, and of each kind nothing but what is named.
func TestSpans(t *testing.T) {
	all := func(kind int) api.Span {
		return api.Span{Kind: kind, S: "&", Kids: spans(text("a"), code("<"))}
	}
	for _, c := range []struct {
		l    []api.Span
		want string
	}{
		{nil, ""}, {spans(), ""},
		{spans(text("a")), "a"}, {spans(text("")), ""}, {spans(text(" a\nb ")), " a\nb "}, {spans(text("a<b")), "a&lt;b"},
		{spans(code("a")), "<code>a</code>"}, {spans(code("")), "<code></code>"}, {spans(code("\"`&")), "<code>&quot;`&amp;</code>"},
		{spans(emph(text("a"))), "<em>a</em>"}, {spans(emph()), "<em></em>"}, {spans(emph(emph(text("a")), code("b"))), "<em><em>a</em><code>b</code></em>"},
		{spans(link("b/c", text("a"))), `<a href="b/c">a</a>`}, {spans(link("")), `<a href=""></a>`},
		{spans(link(`?a&b="<`, link(">", emph()))), `<a href="?a&amp;b=&quot;&lt;"><a href="&gt;"><em></em></a></a>`},
		{spans(text("a "), emph(text("b")), text("c"), text("d"), code("e"), code("f")), "a <em>b</em>cd<code>e</code><code>f</code>"},
		{spans(all(api.Text)), "&amp;"}, {spans(all(api.Code)), "<code>&amp;</code>"},
		{spans(all(api.Emph)), "<em>a<code>&lt;</code></em>"}, {spans(all(api.Link)), `<a href="&amp;">a<code>&lt;</code></a>`},
		{spans(all(0), all(5), all(-1), all(math.MaxInt), all(math.MinInt), all(1<<32+1), all(257)), ""},
		{spans(text("a"), all(0), emph(all(6), text("b"), all(9)), all(5), text("c")), "a<em>b</em>c"},
	} {
		if got := Spans(c.l); got != c.want {
			t.Errorf("Spans(%+v): %q, not %q", c.l, got, c.want)
		}
		holdMarks(t, holdSpans(t, c.l), marksOf(c.l, nil))
	}
}

// P14.1, P14.3: all small lists of spans of all kinds, and of others.
func TestSmallSpans(t *testing.T) {
	for _, l := range spanLists(5) {
		holdMarks(t, holdSpans(t, l), marksOf(l, nil))
	}
}

// spanLists is all lists that take n steps at most: each span is one.
func spanLists(n int) [][]api.Span {
	out := [][]api.Span{nil}
	for size := 1; size <= n; size++ {
		for _, kids := range spanLists(size - 1) {
			if stepsOf(kids) != size-1 {
				continue
			}
			first := spans(emph(kids...), link("<&", kids...))
			if size == 1 {
				first = append(first, text(`>"`), code("<>"), api.Span{Kind: 5, S: "<"})
			}
			for _, rest := range spanLists(n - size) {
				for _, s := range first {
					out = append(out, append(spans(s), rest...))
				}
			}
		}
	}
	return out
}

// stepsOf is how many spans there are.
func stepsOf(l []api.Span) int {
	n := len(l)
	for _, s := range l {
		n += stepsOf(s.Kids)
	}
	return n
}

// example is blocks, and what is shown of them.
type example struct {
	l    []api.Block
	want string
}

// holdExamples holds examples.
func holdExamples(t *testing.T, all []example) {
	t.Helper()
	for _, x := range all {
		if got := Blocks(x.l); got != x.want {
			t.Errorf("Blocks(%+v): %q, not %q", x.l, got, x.want)
		}
		holdMarks(t, holdBlocks(t, x.l), marksOf(nil, x.l))
	}
}

// P14.2: what each kind of block with spans, and a Rule, is shown as.
func TestBlocksOfSpans(t *testing.T) {
	holdExamples(t, []example{
		{nil, ""}, {blocks(), ""},
		{blocks(word("a<b")), "<p>a&lt;b</p>\n"},
		{blocks(para()), "<p></p>\n"},
		{blocks(word("a\nb")), "<p>a\nb</p>\n"},
		{blocks(para(text("a "), emph(link("b", code("&"))))), "<p>a <em><a href=\"b\"><code>&amp;</code></a></em></p>\n"},
		{blocks(heading(1, text("a"))), "<h1>a</h1>\n"},
		{blocks(heading(6)), "<h6></h6>\n"},
		{blocks(heading(2, text(">"), emph(text("b\nc")))), "<h2>&gt;<em>b\nc</em></h2>\n"},
		{blocks(rule), "<hr />\n"},
		{blocks(word("a"), word("b"), rule, rule), "<p>a</p>\n<p>b</p>\n<hr />\n<hr />\n"},
	})
}

// P14.2: a Heading's Level is shown as a digit, or, if it isn't from 1 to 9, as 0.
func TestLevels(t *testing.T) {
	for level, digit := range map[int]string{
		1: "1", 2: "2", 3: "3", 4: "4", 5: "5", 6: "6", 7: "7", 8: "8", 9: "9",
		0: "0", 10: "0", 11: "0", 19: "0", -1: "0", -9: "0", 100: "0", 48: "0", 49: "0", 257: "0",
		1<<32 + 1: "0", math.MaxInt: "0", math.MinInt: "0", math.MinInt + 1: "0",
	} {
		want := "<h" + digit + ">a</h" + digit + ">\n"
		holdExamples(t, []example{{blocks(heading(level, text("a"))), want}, {blocks(quote(heading(level, text("a")))), "<blockquote>\n" + want + "</blockquote>\n"}})
	}
}

// P14.2: what a Fence is shown as.
func TestFences(t *testing.T) {
	holdExamples(t, []example{
		{blocks(fence("")), "<pre><code></code></pre>\n"},
		{blocks(fence("", "")), "<pre><code>\n</code></pre>\n"},
		{blocks(fence("", "a", "", " b\t", "<&>\"")), "<pre><code>a\n\n b\t\n&lt;&amp;&gt;&quot;\n</code></pre>\n"},
		{blocks(fence("go")), "<pre><code class=\"language-go\"></code></pre>\n"},
		{blocks(fence("go run  it", "a")), "<pre><code class=\"language-go\">a\n</code></pre>\n"},
		{blocks(fence("go ")), "<pre><code class=\"language-go\"></code></pre>\n"},
		{blocks(fence(" go", "a")), "<pre><code class=\"language-\">a\n</code></pre>\n"},
		{blocks(fence(" ")), "<pre><code class=\"language-\"></code></pre>\n"},
		{blocks(fence("go\trun it")), "<pre><code class=\"language-go\trun\"></code></pre>\n"},
		{blocks(fence("go\u00a0run\nit")), "<pre><code class=\"language-go\u00a0run\nit\"></code></pre>\n"},
		{blocks(fence("a\"<&> \"", "b\nc")), "<pre><code class=\"language-a&quot;&lt;&amp;&gt;\">b\nc\n</code></pre>\n"},
		{blocks(fence("", "*a*", "`", "</code></pre>")), "<pre><code>*a*\n`\n&lt;/code&gt;&lt;/pre&gt;\n</code></pre>\n"},
	})
}

// P14.2: what containers are shown as.
func TestContainers(t *testing.T) {
	holdExamples(t, []example{
		{blocks(quote()), "<blockquote>\n</blockquote>\n"},
		{blocks(list()), "<ul>\n</ul>\n"},
		{blocks(item()), "<li>\n</li>\n"},
		{blocks(quote(word("a"), rule)), "<blockquote>\n<p>a</p>\n<hr />\n</blockquote>\n"},
		{blocks(list(item(word("a"), fence("")), item())), "<ul>\n<li>\n<p>a</p>\n<pre><code></code></pre>\n</li>\n<li>\n</li>\n</ul>\n"},
		{blocks(list(word("a"), quote()), item(item(rule))), "<ul>\n<p>a</p>\n<blockquote>\n</blockquote>\n</ul>\n<li>\n<li>\n<hr />\n</li>\n</li>\n"},
		{blocks(quote(quote(list(item(heading(2)))))), "<blockquote>\n<blockquote>\n<ul>\n<li>\n<h2></h2>\n</li>\n</ul>\n</blockquote>\n</blockquote>\n"},
	})
}

// P14.2: of a Def, and of another kind, nothing is shown, and of each kind nothing but what is named.
func TestNothingElse(t *testing.T) {
	all := func(kind int) api.Block {
		return api.Block{Kind: kind, Level: 2, Info: "c d", Lines: []string{"e"}, Spans: spans(text("f")), Kids: blocks(rule)}
	}
	holdExamples(t, []example{
		{blocks(def("a", "b")), ""}, {blocks(def("", "")), ""}, {blocks(def("a", "b", "c")), ""},
		{blocks(api.Block{}), ""},
		{blocks(all(0), all(api.Def), all(9), all(-1), all(math.MaxInt), all(math.MinInt), all(1<<32+1), all(257)), ""},
		{blocks(word("a"), def("a", "b"), all(0), word("b"), def("a", "b")), "<p>a</p>\n<p>b</p>\n"},
		{blocks(quote(def("a", "b"))), "<blockquote>\n</blockquote>\n"},
		{blocks(list(item(def("a", "b"), rule), all(9))), "<ul>\n<li>\n<hr />\n</li>\n</ul>\n"},
		{blocks(all(api.Para)), "<p>f</p>\n"}, {blocks(all(api.Heading)), "<h2>f</h2>\n"}, {blocks(all(api.Rule)), "<hr />\n"},
		{blocks(all(api.Fence)), "<pre><code class=\"language-c\">e\n</code></pre>\n"},
		{blocks(all(api.Quote)), "<blockquote>\n<hr />\n</blockquote>\n"},
		{blocks(all(api.List)), "<ul>\n<hr />\n</ul>\n"}, {blocks(all(api.Item)), "<li>\n<hr />\n</li>\n"},
	})
}

// P14.2, P14.3: all small trees of all kinds; the blocks ahead of any place, and those behind it, are shown one behind the other.
func TestSmallTrees(t *testing.T) {
	leaves := blocks(word("<"), heading(3, code("&")), rule, fence("> a", "\""), def("a", "<"), api.Block{Kind: 9})
	some := lists(3, leaves)
	for _, l := range some {
		whole := holdBlocks(t, l)
		holdMarks(t, whole, marksOf(nil, l))
		for i := range len(l) + 1 {
			if parts := Blocks(l[:i]) + Blocks(l[i:]); parts != whole {
				t.Fatalf("Blocks(%+v): %q, not %q, as of %d of them and of the others", l, whole, parts, i)
			}
		}
	}
	for _, a := range some[:400] {
		for _, b := range some[len(some)-400:] {
			if got, want := Blocks(slices.Concat(a, b)), Blocks(a)+Blocks(b); got != want {
				t.Fatalf("Blocks of %+v and %+v: %q, not %q", a, b, got, want)
			}
		}
	}
}

// lists is all lists that take n steps at most: a leaf is one, and so is each container.
func lists(n int, leaves []api.Block) [][]api.Block {
	out := [][]api.Block{nil}
	for size := 1; size <= n; size++ {
		for _, first := range trees(size, leaves) {
			for _, l := range lists(n-size, leaves) {
				out = append(out, append(blocks(first), l...))
			}
		}
	}
	return out
}

// trees is all blocks that take just n steps.
func trees(n int, leaves []api.Block) []api.Block {
	var out []api.Block
	if n == 1 {
		out = slices.Clone(leaves)
	}
	for _, kids := range lists(n-1, leaves) {
		if tree.Count(kids) == n-1 {
			out = append(out, quote(kids...), list(kids...), item(kids...))
		}
	}
	return out
}

// P14.3: what is shown of texts, and of spans, one behind the other is what is shown of each.
func TestBehind(t *testing.T) {
	texts := shortTexts(3, "&<a;")
	for _, a := range texts {
		for _, b := range texts {
			if got, want := Escape(a+b), Escape(a)+Escape(b); got != want {
				t.Fatalf("Escape(%q): %q, not %q", a+b, got, want)
			}
		}
	}
	some := spanLists(3)
	for _, a := range some {
		for _, b := range some {
			if got, want := Spans(slices.Concat(a, b)), Spans(a)+Spans(b); got != want {
				t.Fatalf("Spans of %+v and %+v: %q, not %q", a, b, got, want)
			}
		}
	}
}

// P14.1 to P14.3: what texts of marks and words tell is shown, and can be told from that.
func TestReadAndShown(t *testing.T) {
	r := rand.New(rand.NewPCG(14, 1))
	pieces := []string{"\n", "\n", "\n", "\n\n", "- ", "- ", "> ", ">", "  ", " ", "```", "`", "`", "# ", "#", "*", "*", "[", "](c)", "[a]: b", "---", "a", "b c", "é", "\\", "<", "&", "\"", "&lt;", "<p>", "</em>"}
	some := 0
	for range 20000 {
		var s strings.Builder
		for range r.IntN(30) {
			s.WriteString(pieces[r.IntN(len(pieces))])
		}
		l, e := parse.Document(s.String())
		if e != api.OK {
			t.Fatalf("%q is read with error %d", s.String(), e)
		}
		holdMarks(t, holdBlocks(t, l), marksOf(nil, l))
		holdRead(t, l)
		some += tree.Count(l)
	}
	if some < 40000 {
		t.Errorf("only %d blocks were shown", some)
	}
}

// P14.1, P14.2: a whole document.
func TestWhole(t *testing.T) {
	l, e := parse.Document("# A & *b*\n\nSee [`x < y`](c?d&e)\n\"so\".\n\n> - one\n>\n>   ---\n> - two\n\n[f]: g\n\n```go run\nif a < b {\n\n}\n```\n")
	if e != api.OK {
		t.Fatal(e)
	}
	holdExamples(t, []example{{l, `<h1>A &amp; <em>b</em></h1>
<p>See <a href="c?d&amp;e"><code>x &lt; y</code></a>
&quot;so&quot;.</p>
<blockquote>
<ul>
<li>
<p>one</p>
<hr />
</li>
<li>
<p>two</p>
</li>
</ul>
</blockquote>
<pre><code class="language-go">if a &lt; b {

}
</code></pre>
`}})
	holdRead(t, l)
}

// R1: what lies as deep as any may, what is long, and what is much, is shown.
func TestGreat(t *testing.T) {
	const deep = 1 << 16
	inner, outer := text("<"), rule
	for range deep {
		inner, outer = emph(inner), item(outer)
	}
	if got, want := Spans(spans(inner)), strings.Repeat("<em>", deep)+"&lt;"+strings.Repeat("</em>", deep); got != want {
		t.Errorf("Spans of %d in one another: %d bytes, not %d", deep, len(got), len(want))
	}
	if got, want := Blocks(blocks(outer)), strings.Repeat("<li>\n", deep)+"<hr />\n"+strings.Repeat("</li>\n", deep); got != want {
		t.Errorf("Blocks of %d in one another: %d bytes, not %d", deep, len(got), len(want))
	}
	for _, s := range []string{strings.Repeat("a", api.MaxText), strings.Repeat("\"", api.MaxText+1), strings.Repeat("é&\xff", 1<<22)} {
		want := signs.Replace(s)
		if got := Escape(s); got != want {
			t.Errorf("Escape of %d bytes: %d bytes, not %d", len(s), len(got), len(want))
		}
		if got := Blocks(blocks(heading(1, link(s)), fence(s, s, s))); got != "<h1><a href=\""+want+"\"></a></h1>\n<pre><code class=\"language-"+want+"\">"+want+"\n"+want+"\n</code></pre>\n" {
			t.Errorf("Blocks of %d bytes: %d bytes", len(s), len(got))
		}
	}
	const many = 1 << 19
	if got, want := Spans(slices.Repeat(spans(code("&"), link("a")), many)), strings.Repeat(`<code>&amp;</code><a href="a"></a>`, many); got != want {
		t.Errorf("Spans of %d: %d bytes, not %d", many, len(got), len(want))
	}
	if got, want := Blocks(slices.Repeat(blocks(heading(4, text("a")), def("a", "b"), quote()), many)), strings.Repeat("<h4>a</h4>\n<blockquote>\n</blockquote>\n", many); got != want {
		t.Errorf("Blocks of %d: %d bytes, not %d", many, len(got), len(want))
	}
}

// R3: blocks and spans are not changed, and what lies behind them is neither read nor written; R6: each call answers alike.
func TestArgumentsStay(t *testing.T) {
	make0 := func() []api.Block {
		code := []string{"a", "b", "<"}
		some := spans(text("c"), emph(text("d")), text("e"))
		kids := blocks(word("f"), rule, item())
		return blocks(fence("go", code[:2]...), para(some[:2]...), heading(1, link("g", some[:1]...)), quote(kids[:2]...), list(kids[:1]...), def("h", "i"), rule)
	}
	l := make0()
	for n := range len(l) + 1 {
		want := blocksByWords(make0()[:n])
		for range 2 {
			if got := Blocks(l[:n]); got != want {
				t.Fatalf("Blocks(%+v): %q, not %q", l[:n], got, want)
			}
		}
	}
	some := l[1].Spans
	if got := Spans(some) + Spans(some[:1]); got != "c<em>d</em>c" {
		t.Errorf("Spans(%+v), and of the first: %q", some, got)
	}
	for i, b := range make0() {
		if !sameWithRoom(l[i], b) {
			t.Errorf("%+v is %+v now", b, l[i])
		}
	}
}

// sameWithRoom tells whether two blocks are alike, and what lies behind their lists too.
func sameWithRoom(a, b api.Block) bool {
	lines := slices.Equal(a.Lines[:cap(a.Lines)], b.Lines[:cap(b.Lines)])
	spans := slices.EqualFunc(a.Spans[:cap(a.Spans)], b.Spans[:cap(b.Spans)], spansWithRoom)
	kids := slices.EqualFunc(a.Kids[:cap(a.Kids)], b.Kids[:cap(b.Kids)], sameWithRoom)
	return a.Kind == b.Kind && a.Level == b.Level && a.Info == b.Info && lines && spans && kids
}

// spansWithRoom tells it of spans.
func spansWithRoom(a, b api.Span) bool {
	return a.Kind == b.Kind && a.S == b.S && slices.EqualFunc(a.Kids[:cap(a.Kids)], b.Kids[:cap(b.Kids)], spansWithRoom)
}
