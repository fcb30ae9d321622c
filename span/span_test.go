package span

import (
	"math"
	"math/rand/v2"
	"regexp"
	"slices"
	"strings"
	"testing"

	"emendation/api"
	"emendation/token"
	"emendation/utf"
)

// text, code, emph and link are spans of a kind each.
func text(s string) api.Span         { return api.Span{Kind: api.Text, S: s} }
func code(s string) api.Span         { return api.Span{Kind: api.Code, S: s} }
func emph(kids ...api.Span) api.Span { return api.Span{Kind: api.Emph, Kids: kids} }
func link(dest string, kids ...api.Span) api.Span {
	return api.Span{Kind: api.Link, S: dest, Kids: kids}
}

// list is a list of spans.
func list(l ...api.Span) []api.Span { return l }

// placed is a span, and the spans that it is in, from without to within, and the one ahead of it, if there is one.
type placed struct {
	span   api.Span
	within []api.Span
	ahead  *api.Span
}

// all are all spans of a list, those of kids too.
func all(l []api.Span, within []api.Span) []placed {
	var out []placed
	for i, s := range l {
		p := placed{span: s, within: within}
		if i > 0 {
			p.ahead = &l[i-1]
		}
		out = append(out, p)
		out = append(out, all(s.Kids, append(slices.Clip(within), s))...)
	}
	return out
}

// besideLF are a Space ahead of an LF and one behind it.
var besideLF = regexp.MustCompile(`[ \t]\n|\n[ \t]`)

// textByWords tells whether a Text may have s, in the chapter's words.
func textByWords(s string) bool {
	if s == "" || strings.Contains(s, "\r") || besideLF.MatchString(s) {
		return false
	}
	l := strings.Split(s, "\n")
	for i, line := range l {
		if i > 0 && i < len(l)-1 && strings.Trim(line, " \t") == "" {
			return false
		}
	}
	return true
}

// destByWords is where a link can go to, but for how long it may be.
var destByWords = regexp.MustCompile(`^[a-zA-Z0-9./_#?&:%-]+$`)

// spanByWords tells whether a span is as its kind asks, in the chapter's words.
func spanByWords(p placed) bool {
	s := p.span
	inKind := func(kind int) bool {
		return slices.ContainsFunc(p.within, func(o api.Span) bool { return o.Kind == kind })
	}
	if utf.Check([]byte(s.S)) != api.OK {
		return false
	}
	if (s.Kind == api.Text || s.Kind == api.Code) && p.ahead != nil && p.ahead.Kind == s.Kind {
		return false
	}
	switch s.Kind {
	case api.Text:
		return len(s.Kids) == 0 && textByWords(s.S)
	case api.Code:
		return len(s.Kids) == 0 && s.S != "" && !strings.Contains(s.S, "\n") && !strings.Contains(s.S, "\r")
	case api.Emph:
		return s.S == "" && len(s.Kids) > 0 && !inKind(api.Emph)
	case api.Link:
		return destByWords.MatchString(s.S) && len(s.Kids) > 0 && !inKind(api.Link)
	}
	return false
}

// rightByWords tells whether spans are in normal form, in the chapter's words.
func rightByWords(l []api.Span) bool {
	for _, p := range all(l, nil) {
		if !spanByWords(p) {
			return false
		}
	}
	if len(l) == 0 {
		return true
	}
	first, last := l[0], l[len(l)-1]
	return !(first.Kind == api.Text && strings.TrimLeft(first.S, " \t\n") != first.S) &&
		!(last.Kind == api.Text && strings.TrimRight(last.S, " \t\n") != last.S)
}

// plainByWords is what spans read, in the chapter's words.
func plainByWords(l []api.Span) string {
	var out []string
	for _, p := range all(l, nil) {
		if p.span.Kind == api.Text || p.span.Kind == api.Code {
			out = append(out, p.span.S)
		}
	}
	return strings.Join(out, "")
}

// copied is a list in memory of its own.
func copied(l []api.Span) []api.Span {
	out := make([]api.Span, len(l))
	for i, s := range l {
		out[i] = api.Span{Kind: s.Kind, S: strings.Clone(s.S), Kids: copied(s.Kids)}
	}
	return out
}

// stringsOf are all texts of at most n of these pieces.
func stringsOf(n int, pieces ...string) []string {
	out := []string{""}
	last := out
	for range n {
		var next []string
		for _, s := range last {
			for _, p := range pieces {
				next = append(next, s+p)
			}
		}
		out = append(out, next...)
		last = next
	}
	return out
}

// listsOf are all lists of at most n of these spans.
func listsOf(n int, spans []api.Span) [][]api.Span {
	out := [][]api.Span{nil}
	last := out
	for range n {
		var next [][]api.Span
		for _, l := range last {
			for _, s := range spans {
				next = append(next, append(slices.Clip(l), s))
			}
		}
		out = append(out, next...)
		last = next
	}
	return out
}

// spansOf are the spans of each of these kinds, S and kids.
func spansOf(kinds []int, s []string, kids [][]api.Span) []api.Span {
	var out []api.Span
	for _, k := range kinds {
		for _, x := range s {
			for _, l := range kids {
				out = append(out, api.Span{Kind: k, S: x, Kids: l})
			}
		}
	}
	return out
}

// someSpans are mixed spans, most of them in normal form, at most deep in one another.
func someSpans(r *rand.Rand, deep int) []api.Span {
	words := []string{"a", "b c", "é", "d\ne", " f", "g ", "\n", "h\n", " ", "/x", "", "i\r"}
	var l []api.Span
	for range r.IntN(4) {
		s := api.Span{Kind: 1 + r.IntN(4), S: words[r.IntN(len(words)-r.IntN(3))]}
		switch {
		case s.Kind == api.Emph:
			s.S = ""
		case s.Kind == api.Link:
			s.S = "/x"
		}
		if s.Kind >= api.Emph && deep > 0 {
			s.Kids = someSpans(r, deep-1)
		}
		l = append(l, s)
	}
	return l
}

// holdRight holds Right of a list against the chapter's words.
func holdRight(t *testing.T, l []api.Span) bool {
	t.Helper()
	want := rightByWords(l)
	if got := Right(l); got != want {
		t.Errorf("Right(%+v): %v", l, got)
	}
	return want
}

// P7.1: what is in normal form, and what isn't, at each edge that the chapter names.
func TestRight(t *testing.T) {
	for _, c := range []struct {
		l    []api.Span
		want bool
	}{
		{nil, true},
		{list(), true},
		{list(text("a b")), true},
		{list(text("a\nb\nc")), true},
		{list(text("a  b\tc")), true},
		{list(text("é€*_[]`\\")), true},
		{list(text("\x01\x7f")), true},
		{list(text("\u00a0")), true},
		{list(text("")), false},
		{list(text(" a")), false},
		{list(text("a ")), false},
		{list(text("\ta")), false},
		{list(text("a\t")), false},
		{list(text("\na")), false},
		{list(text("a\n")), false},
		{list(text(" ")), false},
		{list(text("\n")), false},
		{list(text("a\n\nb")), false},
		{list(text("a\n \nb")), false},
		{list(text("a \nb")), false},
		{list(text("a\n b")), false},
		{list(text("a\t\nb")), false},
		{list(text("a\n\tb")), false},
		{list(text("a\rb")), false},
		{list(text("a\r\nb")), false},
		{list(text("a\x00b")), false},
		{list(text("a\xff")), false},
		{list(text("\xc3")), false},
		{list(code("a")), true},
		{list(code(" ")), true},
		{list(code(" a ")), true},
		{list(code("\ta\t")), true},
		{list(code("`*`")), true},
		{list(code("")), false},
		{list(code("a\nb")), false},
		{list(code("\n")), false},
		{list(code("a\rb")), false},
		{list(code("a\x00")), false},
		{list(code("\xe2\x82")), false},
		{list(text("a"), text("b")), false},
		{list(code("a"), code("b")), false},
		{list(text("a"), code("b"), text("c"), code("d")), true},
		{list(text("a "), code("b"), text(" c")), true},
		{list(text("a\n"), code("b"), text("\nc")), true},
		{list(code("a"), text(" "), code("b")), true},
		{list(code("a"), text("\n"), code("b")), true},
		{list(code("a"), text(" \n"), code("b")), false},
		{list(code("a"), text("\n "), code("b")), false},
		{list(code("a"), text("\n\n"), code("b")), false},
		{list(code("a"), text("b\n\n"), code("c")), false},
		{list(code("a"), text("\n\nb"), code("c")), false},
		{list(code("a"), text("\nb\n"), code("c")), true},
		{list(code("a"), text("b ")), false},
		{list(text(" b"), code("a")), false},
		{list(emph(text("a"))), true},
		{list(emph(text(" a "))), true},
		{list(emph(text("\n"))), true},
		{list(emph(code("a"), text(" "))), true},
		{list(emph(text("a")), emph(text("b"))), true},
		{list(link("/", text("a")), link("/", text("a"))), true},
		{list(emph()), false},
		{list(emph(text(""))), false},
		{list(emph(text("a"), text("b"))), false},
		{list(emph(code("a"), code("b"))), false},
		{list(emph(emph(text("a")))), false},
		{list(emph(link("/", text("a")))), true},
		{list(emph(text("a"), link("/", text("b")), text("c"))), true},
		{list(emph(link("/", emph(text("a"))))), false},
		{list(emph(link("/", text("a"), emph(text("a"))))), false},
		{list(api.Span{Kind: api.Emph, S: "a", Kids: list(text("a"))}), false},
		{list(link("a", text("a"))), true},
		{list(link("a", text(" \u00e9 "))), true},
		{list(link("a", text("\n"))), true},
		{list(link("a")), false},
		{list(link("", text("a"))), false},
		{list(link("a b", text("a"))), false},
		{list(link("é", text("a"))), false},
		{list(link("a", text(""))), false},
		{list(link("a", link("a", text("a")))), false},
		{list(link("a", emph(text("a")))), true},
		{list(link("a", emph(text("a")), emph(text("b")))), true},
		{list(link("a", emph(link("a", text("a"))))), false},
		{list(text("a"), emph(text("b")), text("c"), link("d", code("e"))), true},
		{list(emph(text("a")), text(" ")), false},
		{list(text("\n"), emph(text("a"))), false},
	} {
		if got := Right(c.l); got != c.want {
			t.Errorf("Right(%+v): %v", c.l, got)
		}
		if rightByWords(c.l) != c.want {
			t.Errorf("the chapter's words, of %+v: not %v", c.l, c.want)
		}
	}
}

// P7.1, R4: what a kind doesn't use is empty, and empty is alike, nil or not.
func TestRightOfWhatIsNotUsed(t *testing.T) {
	for _, kind := range []int{api.Text, api.Code} {
		for _, c := range []struct {
			kids []api.Span
			want bool
		}{{nil, true}, {list(), true}, {make([]api.Span, 0, 3), true}, {list(text("a")), false}, {list(emph(text("a"))), false}, {list(api.Span{}), false}} {
			if got := Right(list(api.Span{Kind: kind, S: "a", Kids: c.kids})); got != c.want {
				t.Errorf("a span of kind %d with kids %#v: %v", kind, c.kids, got)
			}
		}
	}
	for _, kids := range [][]api.Span{nil, list()} {
		if Right(list(api.Span{Kind: api.Emph, Kids: kids})) || Right(list(api.Span{Kind: api.Link, S: "a", Kids: kids})) {
			t.Errorf("an Emph or a Link with kids %#v is right", kids)
		}
	}
}

// P7.1: each span's kind is one of four, wherever it stands.
func TestRightOfKinds(t *testing.T) {
	for _, kind := range []int{math.MinInt, -1, 0, 5, 6, 1 << 32, 1<<32 + 1, math.MaxInt} {
		for _, s := range []api.Span{{Kind: kind}, {Kind: kind, S: "a"}, {Kind: kind, Kids: list(text("a"))}, {Kind: kind, S: "a", Kids: list(text("a"))}} {
			for _, l := range [][]api.Span{list(s), list(text("a"), s), list(s, text("a")), list(emph(s)), list(link("a", emph(text("a"), s)))} {
				if Right(l) {
					t.Errorf("Right(%+v)", l)
				}
			}
		}
	}
}

// P7.1: all short texts as a Text and as a Code, alone, at each end, between and within others, held against the chapter's words.
func TestRightOfShortTexts(t *testing.T) {
	rights := 0
	for _, s := range stringsOf(5, "a", " ", "\t", "\n", "\r", "é") {
		for _, l := range [][]api.Span{
			list(text(s)), list(code(s)),
			list(text(s), code("x")), list(code("x"), text(s)), list(code("x"), text(s), code("y")),
			list(code(s), text("x")), list(text("x"), code(s)), list(text("x "), code(s), text(" y")),
			list(emph(text(s))), list(emph(code(s))), list(link("x", text(s))), list(link("x", emph(text(s)), code(s))),
			list(text(s), emph(text("x"))), list(link("x", code("y")), text(s)),
		} {
			if holdRight(t, l) {
				rights++
			}
		}
	}
	if rights < 1000 {
		t.Errorf("only %d were right", rights)
	}
}

// P7.1: S with any two bytes, and with pieces of characters, held against the chapter's words.
func TestRightOfBytes(t *testing.T) {
	for a := range 256 {
		for b := range 256 {
			s := string([]byte{byte(a), byte(b)})
			holdRight(t, list(text("x"+s+"y")))
			holdRight(t, list(code(s)))
			holdRight(t, list(link(s, text("x"))))
			holdRight(t, list(api.Span{Kind: api.Emph, S: s[:a%2], Kids: list(text("x"))}))
		}
	}
	for _, s := range stringsOf(4, "\xe2", "\x82", "\xac", "\xed", "\xa0", "a") {
		holdRight(t, list(text(s)))
		holdRight(t, list(emph(code(s))))
	}
}

// P7.1: all small trees of spans of all kinds, and of two that are none, held against the chapter's words.
func TestRightOfSmallTrees(t *testing.T) {
	kinds := []int{0, api.Text, api.Code, api.Emph, api.Link, 5}
	s := []string{"", "a"}
	flat := listsOf(2, spansOf(kinds, s, [][]api.Span{nil}))
	second := listsOf(1, spansOf(kinds, s, flat))
	third := listsOf(1, spansOf(kinds, s, second))
	fourth := listsOf(1, spansOf(kinds[1:5], s, third))
	rights := 0
	for _, l := range slices.Concat(listsOf(3, spansOf(kinds, s, [][]api.Span{nil, list(text("b"))})), second, third, fourth) {
		if holdRight(t, l) {
			rights++
		}
	}
	if rights < 50 {
		t.Errorf("only %d were right", rights)
	}
}

// P7.1: mixed trees, held against the chapter's words.
func TestRightOfMixedTrees(t *testing.T) {
	r := rand.New(rand.NewPCG(7, 1))
	rights := 0
	for range 100000 {
		if l := someSpans(r, 3); len(l) > 0 && holdRight(t, l) {
			rights++
		}
	}
	if rights < 1000 {
		t.Errorf("only %d were right", rights)
	}
}

// P7.1, and the document's word 'text': an S of MaxText bytes is a text, and a longer one isn't.
func TestRightOfLongTexts(t *testing.T) {
	full := strings.Repeat("a", api.MaxText)
	for _, c := range []struct {
		name string
		of   func(s string) []api.Span
	}{
		{"a Text", func(s string) []api.Span { return list(text(s)) }},
		{"a Code", func(s string) []api.Span { return list(code(s)) }},
		{"a Link", func(s string) []api.Span { return list(link(s, text("a"))) }},
		{"a Text in an Emph", func(s string) []api.Span { return list(emph(text(s))) }},
	} {
		if !Right(c.of(full)) {
			t.Errorf("%s with MaxText bytes isn't right", c.name)
		}
		if Right(c.of(full + "a")) {
			t.Errorf("%s with one more is right", c.name)
		}
	}
	if !Right(list(text(full), code(full), text(full))) {
		t.Error("three full spans aren't right")
	}
}

// P7.1: whether both have the same spans in the same order; R4: no kids are alike, nil or not.
func TestSame(t *testing.T) {
	for _, c := range []struct {
		a, b []api.Span
		want bool
	}{
		{nil, nil, true},
		{nil, list(), true},
		{nil, list(api.Span{}), false},
		{list(text("a")), list(text("a")), true},
		{list(text("a")), list(text("b")), false},
		{list(text("a")), list(text("ab")), false},
		{list(text("a")), list(code("a")), false},
		{list(text("a")), list(text("a"), text("a")), false},
		{list(text("a"), code("b")), list(code("b"), text("a")), false},
		{list(text("a"), text("b")), list(text("ab")), false},
		{list(text("a"), code("b")), list(text("a"), code("c")), false},
		{list(text("")), list(), false},
		{list(api.Span{Kind: 9, S: "\xff\x00"}), list(api.Span{Kind: 9, S: "\xff\x00"}), true},
		{list(api.Span{Kind: -1}), list(api.Span{Kind: 1}), false},
		{list(api.Span{Kind: 1 << 32}), list(api.Span{}), false},
		{list(api.Span{Kind: 1, S: "a", Kids: list()}), list(text("a")), true},
		{list(api.Span{Kind: 1, S: "a", Kids: list(text("b"))}), list(text("a")), false},
		{list(emph(text("a"))), list(emph(text("a"))), true},
		{list(emph(text("a"))), list(emph(text("b"))), false},
		{list(emph(text("a"))), list(emph(text("a"), code("b"))), false},
		{list(emph(text("a"))), list(text("a")), false},
		{list(emph(text("a"), code("b"))), list(emph(text("a")), code("b")), false},
		{list(api.Span{Kind: api.Emph, S: "x", Kids: list(text("a"))}), list(emph(text("a"))), false},
		{list(link("x", text("a"))), list(link("x", text("a"))), true},
		{list(link("x", text("a"))), list(link("y", text("a"))), false},
		{list(link("x", text("a"))), list(link("x", code("a"))), false},
		{list(link("x", emph(text("a"), code("b")))), list(link("x", emph(text("a"), code("c")))), false},
		{list(link("x", emph(text("a"), code("b")))), list(link("x", emph(text("a"), code("b")))), true},
	} {
		if got := Same(c.a, c.b); got != c.want {
			t.Errorf("Same(%+v, %+v): %v", c.a, c.b, got)
		}
		if got := Same(c.b, c.a); got != c.want {
			t.Errorf("Same(%+v, %+v): %v", c.b, c.a, got)
		}
	}
}

// P7.1: of lists without doubles, two by two, only each one and itself are the same: flat lists, and trees.
func TestSameOfSmallTrees(t *testing.T) {
	kinds := []int{api.Text, api.Emph, api.Link}
	s := []string{"", "a"}
	flat := listsOf(3, spansOf(kinds, s, [][]api.Span{nil}))
	inner := listsOf(2, spansOf(kinds, s, [][]api.Span{nil, list(text("a"))}))
	for _, lists := range [][][]api.Span{flat, listsOf(1, spansOf(kinds, s, inner))} {
		for i, a := range lists {
			own := copied(a)
			for j, b := range lists {
				if got := Same(own, b); got != (i == j) {
					t.Fatalf("Same(%+v, %+v): %v", a, b, got)
				}
			}
		}
	}
}

// P7.1: where a link can go to, by each byte, and in all short texts.
func TestDest(t *testing.T) {
	for b := range 256 {
		c := string([]byte{byte(b)})
		want := strings.Contains("abcdefghijklmnopqrstuvwxyzABCDEFGHIJKLMNOPQRSTUVWXYZ0123456789./_-#?&:%", c)
		for _, s := range []string{c, "a" + c, c + "a", "a" + c + "a"} {
			if got := Dest(s); got != want {
				t.Errorf("Dest(%q): %v", s, got)
			}
		}
	}
	for _, s := range stringsOf(4, "a", "Z", "0", "/", "%", " ", "\n", "é", ")") {
		want := s != "" && !strings.ContainsAny(s, " \né)")
		if got := Dest(s); got != want {
			t.Errorf("Dest(%q): %v", s, got)
		}
	}
	for _, c := range []struct {
		s    string
		want bool
	}{
		{"", false},
		{"https://a.b/c_d-e?f&g#h:80%20", true},
		{"..", true},
		{"a=b", false},
		{"a+b", false},
		{"~a", false},
		{"a\x00", false},
		{"\xff", false},
		{"ａ", false},
		{strings.Repeat("a", api.MaxText), true},
		{strings.Repeat("a", api.MaxText) + "a", false},
	} {
		if got := Dest(c.s); got != c.want {
			t.Errorf("Dest of %d bytes, %.40q: %v", len(c.s), c.s, got)
		}
	}
}

// P7.2: what spans read, and how many lines that has.
func TestPlain(t *testing.T) {
	for _, c := range []struct {
		l     []api.Span
		plain string
		lines int
	}{
		{nil, "", 1},
		{list(), "", 1},
		{list(text("a b")), "a b", 1},
		{list(code("a*b")), "a*b", 1},
		{list(text("a\nb")), "a\nb", 2},
		{list(text("a\n"), code("b"), text("\nc\nd")), "a\nb\nc\nd", 4},
		{list(text("\n")), "\n", 2},
		{list(text("a"), emph(text("b"), code("c")), text("d")), "abcd", 1},
		{list(link("x\ny", text("a"))), "a", 1},
		{list(link("x", text("a\n"), emph(text("b")), code("c"))), "a\nbc", 2},
		{list(emph(text("a\n"), link("x", text("b\n"))), text("\nc")), "a\nb\n\nc", 4},
		{list(text("a"), text("b"), text("")), "ab", 1},
		{list(text("a\r\nb\r")), "a\r\nb\r", 2},
		{list(text("\xff\x00")), "\xff\x00", 1},
		{list(text("é"), code("€")), "é€", 1},
		{list(api.Span{Kind: api.Emph, S: "x\n", Kids: list(text("a"))}), "a", 1},
		{list(api.Span{Kind: 0, S: "x\n"}, api.Span{Kind: 5, S: "y\n"}, api.Span{Kind: -1, S: "z\n"}), "", 1},
		{list(api.Span{Kind: 5, S: "x\n", Kids: list(text("a\n"))}), "a\n", 2},
		{list(api.Span{Kind: api.Text, S: "x\n", Kids: list(text("a\n"), code("b"))}, text("c")), "x\na\nbc", 3},
	} {
		if got := Plain(c.l); got != c.plain {
			t.Errorf("Plain(%+v): %q, not %q", c.l, got, c.plain)
		}
		if got := Lines(c.l); got != c.lines {
			t.Errorf("Lines(%+v): %d, not %d", c.l, got, c.lines)
		}
	}
}

// P7.2: mixed trees, held against the chapter's words.
func TestPlainOfMixedTrees(t *testing.T) {
	r := rand.New(rand.NewPCG(7, 2))
	for range 50000 {
		l := someSpans(r, 4)
		want := plainByWords(l)
		if got := Plain(l); got != want {
			t.Fatalf("Plain(%+v): %q, not %q", l, got, want)
		}
		if got := Lines(l); got != 1+strings.Count(want, "\n") {
			t.Fatalf("Lines(%+v): %d", l, got)
		}
	}
}

// P7.3: a single Text of one word is in normal form, of each character that words have.
func TestOneWord(t *testing.T) {
	for c := 1; c <= 0x10ffff; c++ {
		s := string(rune(c))
		if c >= 0xd800 && c <= 0xdfff || utf.Class(c) != utf.Word {
			continue
		}
		if !Right(list(text(s))) {
			t.Fatalf("a Text of the character %d alone isn't right", c)
		}
	}
	for _, s := range token.Cut("some words, that aren't long: naïve, x1y2, 3") {
		if utf.Class(int(s[0])) == utf.Word && !Right(list(text(s))) {
			t.Errorf("a Text of %q alone isn't right", s)
		}
	}
}

// rightLists are lists in normal form.
func rightLists() [][]api.Span {
	spans := list(text("a"), text("b c"), text("d\ne"), code("a"), code(" "), emph(text(" a ")), emph(code("a"), text("\n")), link("a", text("b"), emph(text("c"))), emph(link("a", code("b"))))
	return slices.DeleteFunc(listsOf(3, spans), func(l []api.Span) bool { return !rightByWords(l) })
}

// P7.3: two lists in normal form with a Code between are in normal form, where no Code is beside it, and else aren't.
func TestTwoWithACodeBetween(t *testing.T) {
	lists := rightLists()
	if len(lists) < 300 {
		t.Fatalf("only %d lists", len(lists))
	}
	for _, a := range lists {
		for _, b := range lists {
			beside := len(a) > 0 && a[len(a)-1].Kind == api.Code || len(b) > 0 && b[0].Kind == api.Code
			if l := slices.Concat(a, list(code("x")), b); Right(l) == beside {
				t.Fatalf("Right(%+v): %v", l, !beside)
			}
		}
	}
}

// P7.3: spans in normal form are never empty texts: neither one of them nor what any of them reads is empty.
func TestNeverEmpty(t *testing.T) {
	r := rand.New(rand.NewPCG(7, 3))
	lists := rightLists()
	for range 50000 {
		lists = append(lists, someSpans(r, 2))
	}
	for _, l := range lists {
		if !Right(l) {
			continue
		}
		for _, p := range all(l, nil) {
			if p.span.Kind == api.Text && p.span.S == "" || Plain(list(p.span)) == "" {
				t.Fatalf("%+v has an empty span", l)
			}
		}
	}
	for _, empty := range list(text(""), code(""), emph(), emph(text("")), link("a"), link("a", code(""))) {
		for _, l := range [][]api.Span{list(empty), list(emph(text("a")), empty), list(empty, emph(text("a"))), list(link("a", text("b")), empty, emph(text("a")))} {
			if Right(l) {
				t.Errorf("Right(%+v)", l)
			}
		}
	}
}

// R3: what lies behind a list's length isn't read, and nothing is changed.
func TestListsStay(t *testing.T) {
	whole := list(emph(text("a")), text("b"), text("c\n"), api.Span{Kind: 9})
	kids := list(code("d"), code("e"), emph())
	l := whole[:2]
	l[0].Kids = kids[:1]
	wasWhole, wasKids := copied(whole), copied(kids)
	if !Right(l) || !Right(whole[:0]) || !Right(whole[:1]) || Right(whole[:3]) {
		t.Error("Right reads behind a list's end")
	}
	if Plain(l) != "db" || Lines(l) != 1 || Plain(whole[:0]) != "" {
		t.Error("Plain or Lines reads behind a list's end")
	}
	if !Same(l, list(emph(code("d")), text("b"))) || !Same(whole[:0], nil) || Same(l, whole[:3]) {
		t.Error("Same reads behind a list's end")
	}
	if !Same(whole, wasWhole) || !Same(kids, wasKids) {
		t.Error("a list was changed")
	}
}

// nested is a span in so many of two kinds, one in the other, by turns, with an S each.
func nested(n int, in api.Span) api.Span {
	for i := range n {
		s := emph(text("\n"), in)
		if i%2 == 0 {
			s = link("a", in, code("b"))
		}
		in = s
	}
	return in
}

// R1, and the document's bound: spans that are deep in one another.
func TestDeepSpans(t *testing.T) {
	const deep = 1<<16 - 2
	l, other := list(nested(deep, text("x"))), list(nested(deep, text("y")))
	if Right(l) {
		t.Error("deep spans are right")
	}
	if want := strings.Repeat("\n", deep/2) + "x" + strings.Repeat("b", deep/2); Plain(l) != want {
		t.Error("Plain of deep spans")
	}
	if Lines(l) != deep/2+1 {
		t.Errorf("Lines of deep spans: %d", Lines(l))
	}
	if !Same(l, list(nested(deep, text("x")))) || Same(l, other) {
		t.Error("Same of deep spans")
	}
}

// R1: great lists.
func TestGreatLists(t *testing.T) {
	const n = 1 << 20
	l := make([]api.Span, n)
	for i := range l {
		switch i % 4 {
		case 0:
			l[i] = text("a\nb")
		case 1:
			l[i] = code("c")
		case 2:
			l[i] = emph(text("d"), link("e", text("f")))
		case 3:
			l[i] = link("g", emph(code("h")))
		}
	}
	if !Right(l) {
		t.Error("a great list isn't right")
	}
	if Plain(l) != strings.Repeat("a\nbcdfh", n/4) || Lines(l) != n/4+1 {
		t.Error("Plain or Lines of a great list")
	}
	own := copied(l)
	if !Same(l, own) {
		t.Error("a great list isn't the same as itself")
	}
	own[n-1].Kids[0].Kids[0].S = "i"
	if Same(l, own) {
		t.Error("a great list is the same as another")
	}
	own[n-1].Kids[0].Kids[0].S = "\n"
	if Right(own) {
		t.Error("a great list with a wrong Code at its end is right")
	}
}
