package spanin

import (
	"math"
	"math/rand/v2"
	"regexp"
	"slices"
	"strings"
	"testing"

	"emendation/api"
	"emendation/span"
	"emendation/utf"
)

// text, code, emph and link are spans of a kind each.
func text(s string) api.Span         { return api.Span{Kind: api.Text, S: s} }
func code(s string) api.Span         { return api.Span{Kind: api.Code, S: s} }
func emph(kids ...api.Span) api.Span { return api.Span{Kind: api.Emph, Kids: kids} }
func link(dest string, kids ...api.Span) api.Span {
	return api.Span{Kind: api.Link, S: dest, Kids: kids}
}

// list is a list of spans.
func list(l ...api.Span) []api.Span { return l }

// example is a text, and what it tells.
type example struct {
	s    string
	want []api.Span
}

// holdExamples holds Parse, and the chapter's words, against examples.
func holdExamples(t *testing.T, l []example) {
	t.Helper()
	for _, c := range l {
		if got := Parse(c.s); !span.Same(got, c.want) {
			t.Errorf("Parse(%q): %+v, not %+v", c.s, got, c.want)
		}
		if got := parseByWords(c.s); !span.Same(got, c.want) {
			t.Errorf("the chapter's words, of %q: %+v, not %+v", c.s, got, c.want)
		}
	}
}

// stop is how reading ended.
type stop int

const (
	atEnd stop = iota
	atStar
	atShut
)

// words reads in the chapter's words, byte by byte, and tries whatever may be.
type words struct{ s string }

// parseByWords is what a text tells, in the chapter's words.
func parseByWords(s string) []api.Span {
	out, _, _ := words{s}.read(0, false, false)
	return out
}

// read is what is read from a place on, where it ended, and how.
func (w words) read(at int, inEmph, inLink bool) ([]api.Span, int, stop) {
	var out []api.Span
	addText := func(s string) {
		if n := len(out); n > 0 && out[n-1].Kind == api.Text {
			out[n-1].S += s
			return
		}
		out = append(out, text(s))
	}
	for at < len(w.s) {
		c := w.s[at]
		switch {
		case c == '\\' && at+1 < len(w.s) && utf.Class(int(w.s[at+1])) == utf.Mark:
			addText(w.s[at+1 : at+2])
			at += 2
			continue
		case c == '`':
			n := len(w.s[at:]) - len(strings.TrimLeft(w.s[at:], "`"))
			if s, ok := w.codeBehind(at+n, n); ok {
				out = append(out, code(without(s)))
				at += n + len(s) + n
			} else {
				addText(w.s[at : at+n])
				at += n
			}
			continue
		case c == '*' && inEmph:
			return out, at, atStar
		case c == '*':
			kids, end, how := w.read(at+1, true, inLink)
			if how == atStar && len(kids) > 0 {
				out = append(out, emph(kids...))
				at = end + 1
				continue
			}
		case c == ']' && inLink:
			return out, at, atShut
		case c == '[' && !inLink:
			kids, end, how := w.read(at+1, inEmph, true)
			if how == atShut && len(kids) > 0 {
				if m := tailByWords.FindStringSubmatch(w.s[end+1:]); m != nil {
					out = append(out, link(m[1], kids...))
					at = end + 1 + len(m[0])
					continue
				}
			}
		}
		addText(w.s[at : at+1])
		at++
	}
	return out, at, atEnd
}

// tailByWords is what follows the ] of a link.
var tailByWords = regexp.MustCompile(`^\(([a-zA-Z0-9./_#?&:%-]+)\)`)

// ticksByWords are backticks side by side.
var ticksByWords = regexp.MustCompile("`+")

// codeBehind is what lies between a place and the next n backticks ahead of the next LF, just n.
func (w words) codeBehind(at, n int) (string, bool) {
	rest, _, _ := strings.Cut(w.s[at:], "\n")
	for _, m := range ticksByWords.FindAllStringIndex(rest, -1) {
		if m[1]-m[0] == n {
			return rest[:m[0]], true
		}
	}
	return "", false
}

// without is a code's text without a space at each end, where it is to be so.
func without(s string) string {
	if s[0] == ' ' && s[len(s)-1] == ' ' && strings.Count(s, " ") < len(s) {
		return s[1 : len(s)-1]
	}
	return s
}

// gapsByWords are two LF side by side, and a Space beside an LF.
var gapsByWords = regexp.MustCompile(`\n\n|[ \t]\n|\n[ \t]`)

// cleanByWords tells whether a text is clean, in the chapter's words.
func cleanByWords(s string) bool {
	return utf.Check([]byte(s)) == api.OK && !strings.Contains(s, "\r") &&
		strings.Trim(s, " \t\n") == s && !gapsByWords.MatchString(s)
}

// eachOf hands on all texts of at most n of these pieces.
func eachOf(n int, pieces []string, to func(s string)) {
	to("")
	if n == 0 {
		return
	}
	for _, p := range pieces {
		eachOf(n-1, pieces, func(s string) { to(p + s) })
	}
}

// holdParse holds Parse of a text against the chapter's words, and what comes of a clean one against normal form.
func holdParse(t *testing.T, s string) []api.Span {
	t.Helper()
	got := Parse(s)
	if want := parseByWords(s); !span.Same(got, want) {
		t.Fatalf("Parse(%q): %+v, not %+v", s, got, want)
	}
	if Clean(s) && !span.Right(got) {
		t.Fatalf("Parse(%q): %+v: not in normal form", s, got)
	}
	return got
}

// P8.1: the chapter's own examples, and the document's.
func TestParseOfTheExamples(t *testing.T) {
	holdExamples(t, []example{
		{"a *b*", list(text("a "), emph(text("b")))},
		{"*a", list(text("*a"))},
		{`a\*b*c*`, list(text("a*b"), emph(text("c")))},
		{"", nil},
	})
}

// P8.1: at a backslash.
func TestParseAtBackslashes(t *testing.T) {
	holdExamples(t, []example{
		{`\`, list(text(`\`))},
		{`\\`, list(text(`\`))},
		{`\\\`, list(text(`\\`))},
		{`a\`, list(text(`a\`))},
		{`\a\1\é\ \` + "\t", list(text(`\a\1\é\ \` + "\t"))},
		{"a\\\nb\\\rc\\\x00", list(text("a\\\nb\\\rc\\\x00"))},
		{`\*a*`, list(text("*a*"))},
		{`*a\*`, list(text("*a*"))},
		{`*a\\*`, list(emph(text(`a\`)))},
		{`*a\**`, list(emph(text("a*")))},
		{`\[a](x)`, list(text("[a](x)"))},
		{`[a\](x)`, list(text("[a](x)"))},
		{`[a\]](x)`, list(link("x", text("a]")))},
		{`[a]\(x)`, list(text("[a](x)"))},
		{`[a](x\)`, list(text("[a](x)"))},
		{`[a](x\.y)`, list(text("[a](x.y)"))},
		{"\\`a`", list(text("`a`"))},
		{"`a\\`", list(code(`a\`))},
		{"`\\*`", list(code(`\*`))},
		{"\\``a`", list(text("`"), code("a"))},
		{"\\``a``", list(text("``a``"))},
		{"\\`\\`a``", list(text("``a``"))},
		{"\\``\\`", list(text("`"), code(`\`))},
	})
}

// P8.1: just what has the class Mark is escaped, of all bytes.
func TestParseOfAllEscapes(t *testing.T) {
	for b := range 256 {
		s := string([]byte{'a', '\\', byte(b), 'c'})
		want := s
		if strings.IndexByte("!\"#$%&'()*+,-./:;<=>?@[\\]^_`{|}~", byte(b)) >= 0 {
			want = "a" + s[2:]
		}
		if got := Parse(s); !span.Same(got, list(text(want))) {
			t.Errorf("Parse(%q): %+v", s, got)
		}
	}
}

// P8.1: at backticks.
func TestParseAtBackticks(t *testing.T) {
	holdExamples(t, []example{
		{"`", list(text("`"))},
		{"``", list(text("``"))},
		{"`a`", list(code("a"))},
		{"a`b`c", list(text("a"), code("b"), text("c"))},
		{"``a``", list(code("a"))},
		{"``a`", list(text("``a`"))},
		{"`a``", list(text("`a``"))},
		{"`a``b`", list(code("a``b"))},
		{"``a`b``", list(code("a`b"))},
		{"```a``b`c```", list(code("a``b`c"))},
		{"``a`b`", list(text("``a"), code("b"))},
		{"`a`b`", list(code("a"), text("b`"))},
		{"`a`b`c`", list(code("a"), text("b"), code("c"))},
		{"`a` `b`", list(code("a"), text(" "), code("b"))},
		{"`*a*`", list(code("*a*"))},
		{"`[a](x)`", list(code("[a](x)"))},
		{"`é`", list(code("é"))},
	})
}

// P8.1: what lies between backticks, without one space at each end.
func TestParseOfSpacesInCodes(t *testing.T) {
	holdExamples(t, []example{
		{"` a `", list(code("a"))},
		{"`  a  `", list(code(" a "))},
		{"` a`", list(code(" a"))},
		{"`a `", list(code("a "))},
		{"` `", list(code(" "))},
		{"`  `", list(code("  "))},
		{"`   `", list(code("   "))},
		{"`\ta\t`", list(code("\ta\t"))},
		{"` \t `", list(code("\t"))},
		{"` a\t`", list(code(" a\t"))},
		{"`` ` ``", list(code("`"))},
		{"`` `a` ``", list(code("`a`"))},
		{"`` `a``", list(code(" `a"))},
	})
}

// P8.1: backticks close one another ahead of the next LF alone.
func TestParseOfCodesAndLines(t *testing.T) {
	holdExamples(t, []example{
		{"`a\nb`", list(text("`a\nb`"))},
		{"`a\n`b`", list(text("`a\n"), code("b"))},
		{"`a`\n`b`", list(code("a"), text("\n"), code("b"))},
		{"a `b` c\nd `e` f", list(text("a "), code("b"), text(" c\nd "), code("e"), text(" f"))},
		{"``\n`a`\n``", list(text("``\n"), code("a"), text("\n``"))},
		{"`a\rb`", list(code("a\rb"))},
		{"*a\nb*", list(emph(text("a\nb")))},
		{"[a\nb](x)", list(link("x", text("a\nb")))},
		{"[a](x\n)", list(text("[a](x\n)"))},
		{"[a]\n(x)", list(text("[a]\n(x)"))},
	})
}

// P8.1: at a star.
func TestParseAtStars(t *testing.T) {
	holdExamples(t, []example{
		{"*", list(text("*"))},
		{"**", list(text("**"))},
		{"***", list(text("***"))},
		{"*a*", list(emph(text("a")))},
		{"* a *", list(emph(text(" a ")))},
		{"* *", list(emph(text(" ")))},
		{"**a*", list(text("*"), emph(text("a")))},
		{"**a**", list(text("*"), emph(text("a")), text("*"))},
		{"*a**", list(emph(text("a")), text("*"))},
		{"*a**b*", list(emph(text("a")), emph(text("b")))},
		{"*a*b*c*", list(emph(text("a")), text("b"), emph(text("c")))},
		{"a*b", list(text("a*b"))},
		{"a*b*c", list(text("a"), emph(text("b")), text("c"))},
		{"*`*`*", list(emph(code("*")))},
		{"*`a*`", list(text("*"), code("a*"))},
		{"*`a*", list(emph(text("`a")))},
		{"*[a*", list(emph(text("[a")))},
		{"*a]*", list(emph(text("a]")))},
	})
}

// P8.1: at a [ and a ].
func TestParseAtBrackets(t *testing.T) {
	holdExamples(t, []example{
		{"[", list(text("["))},
		{"]", list(text("]"))},
		{"[]", list(text("[]"))},
		{"[](x)", list(text("[](x)"))},
		{"[a]", list(text("[a]"))},
		{"[a](", list(text("[a]("))},
		{"[a]()", list(text("[a]()"))},
		{"[a](x", list(text("[a](x"))},
		{"[a]x)", list(text("[a]x)"))},
		{"[a](x)", list(link("x", text("a")))},
		{"[a](x)b", list(link("x", text("a")), text("b"))},
		{"[a](x))", list(link("x", text("a")), text(")"))},
		{"[a](x)(y)", list(link("x", text("a")), text("(y)"))},
		{"[a](x)[b](y)", list(link("x", text("a")), link("y", text("b")))},
		{"[a](x y)", list(text("[a](x y)"))},
		{"[a](é)", list(text("[a](é)"))},
		{"[a]((x))", list(text("[a]((x))"))},
		{"[a] (x)", list(text("[a] (x)"))},
		{"[a](azAZ09./_-#?&:%)", list(link("azAZ09./_-#?&:%", text("a")))},
		{"[[a](x)", list(link("x", text("[a")))},
		{"[[a]](x)", list(text("[[a]](x)"))},
		{"[]a](x)", list(text("[]a](x)"))},
		{"[][a](x)", list(text("[]"), link("x", text("a")))},
		{"[a][b](x)", list(text("[a]"), link("x", text("b")))},
		{"[a[b](x)](y)", list(link("x", text("a[b")), text("](y)"))},
		{"a](x)", list(text("a](x)"))},
		{"[ ](x)", list(link("x", text(" ")))},
		{"[`]`](x)", list(link("x", code("]")))},
		{"[`a](x)`", list(text("["), code("a](x)"))},
		{"[a](`x`)", list(text("[a]("), code("x"), text(")"))},
		{"[a](*x*)", list(text("[a]("), emph(text("x")), text(")"))},
	})
}

// P8.1: a link goes to just the bytes that layer 7 lets through.
func TestParseOfAllDests(t *testing.T) {
	for b := range 256 {
		for _, dest := range []string{string([]byte{byte(b)}), string([]byte{'a', byte(b)}), string([]byte{byte(b), 'a'})} {
			s := "[a](" + dest + ")"
			got := holdParse(t, s)
			if is := len(got) == 1 && got[0].Kind == api.Link; is != span.Dest(dest) {
				t.Errorf("Parse(%q): %+v", s, got)
			}
		}
	}
}

// P8.1: emphases in links, links in emphases, and what crosses.
func TestParseOfBothInOneAnother(t *testing.T) {
	holdExamples(t, []example{
		{"*[a](x)*", list(emph(link("x", text("a"))))},
		{"[*a*](x)", list(link("x", emph(text("a"))))},
		{"*a [b](x) c*", list(emph(text("a "), link("x", text("b")), text(" c")))},
		{"[a *b* c](x)", list(link("x", text("a "), emph(text("b")), text(" c")))},
		{"*[*](x)", list(emph(text("[")), text("](x)"))},
		{"*[a*](x)", list(emph(text("[a")), text("](x)"))},
		{"*[a*b](x)*", list(emph(text("[a")), text("b](x)*"))},
		{"[*](x)", list(link("x", text("*")))},
		{"[*a](x)*", list(link("x", text("*a")), text("*"))},
		{"[*a](x)b*", list(link("x", text("*a")), text("b*"))},
		{"[a*](x)*b*", list(link("x", text("a*")), emph(text("b")))},
		{"[**](x)", list(link("x", text("**")))},
		{"[*a**b*](x)", list(link("x", emph(text("a")), emph(text("b"))))},
		{"[*a*b*](x)", list(link("x", emph(text("a")), text("b*")))},
		{"[*[a*](x)", list(link("x", emph(text("[a"))))},
		{"[*a*", list(text("["), emph(text("a")))},
		{"[*a*]", list(text("["), emph(text("a")), text("]"))},
		{"*[a]*", list(emph(text("[a]")))},
		{"*[a](x)", list(text("*"), link("x", text("a")))},
		{"**[a](x)*", list(text("*"), emph(link("x", text("a"))))},
		{"*[](x)*", list(emph(text("[](x)")))},
		{"*[a](x)[b](y)*", list(emph(link("x", text("a")), link("y", text("b"))))},
		{"*]*", list(emph(text("]")))},
		{"[a](x)*]*", list(link("x", text("a")), emph(text("]")))},
		{"*a*[b](x)*c*", list(emph(text("a")), link("x", text("b")), emph(text("c")))},
		{"[*`a`*](x)", list(link("x", emph(code("a"))))},
		{"[*`*`](x)*`]`*", list(link("x", text("*"), code("*")), emph(code("]")))},
	})
}

// P8.1, P8.3: all short texts of what is read otherwise than as it is, held against the chapter's words.
func TestParseOfShortTexts(t *testing.T) {
	for _, c := range []struct {
		n      int
		pieces []string
	}{
		{5, []string{"a", " ", "\n", "\\", "*", "`", "[", "]", "(", ")"}},
		{6, []string{"a", "\\", "*", "`", "[", "](x)", "]"}},
		{8, []string{"a", "*", "[", "](x)"}},
		{8, []string{"a", "*", "[", "]"}},
		{9, []string{"a", "`", "\\"}},
		{7, []string{"a", "`", " ", "\n", "\\`"}},
		{6, []string{"`", "``", "* ", "*", "](a)", "["}},
	} {
		eachOf(c.n, c.pieces, func(s string) { holdParse(t, s) })
	}
}

// P8.1, P8.3: mixed longer texts, held against the chapter's words.
func TestParseOfMixedTexts(t *testing.T) {
	r := rand.New(rand.NewPCG(8, 1))
	pieces := []string{"a", "b ", " ", "\n", "\t", "\r", "é", "\\", "*", "*", "*", "`", "`", "``", "[", "[", "](x)", "](x/y)", "]", "(x)", "\x00", "\xff"}
	kinds := make([]int, api.Link+1)
	for range 50000 {
		var s strings.Builder
		for range r.IntN(40) {
			s.WriteString(pieces[r.IntN(len(pieces))])
		}
		for _, x := range holdParse(t, s.String()) {
			kinds[x.Kind]++
		}
	}
	if slices.Min(kinds[api.Text:]) < 1000 || kinds[0] > 0 {
		t.Errorf("spans of the kinds: %v", kinds)
	}
}

// P8.1: bytes that are no text are text.
func TestParseOfBytes(t *testing.T) {
	for _, s := range []string{"\x00", "\xff", "\xe2\x82", "a\xc3*\xa9*", "`\x00\xff`", "[\x80](x)", "*\xf5*", "\r", "a\r\nb", "\n", " \n ", "\n\n"} {
		if got := holdParse(t, s); s == "\x00" && !span.Same(got, list(text(s))) {
			t.Errorf("Parse(%q): %+v", s, got)
		}
	}
	for a := range 256 {
		for b := range 256 {
			holdParse(t, string([]byte{byte(a), byte(b)}))
		}
	}
}

// P8.1: how many backticks stand at a place.
func TestTicks(t *testing.T) {
	for _, c := range []struct {
		s    string
		at   int
		want int
	}{
		{"", 0, 0}, {"", 1, 0}, {"", -1, 0},
		{"`", 0, 1}, {"`", 1, 0}, {"`", 2, 0}, {"`", -1, 0},
		{"```", 0, 3}, {"```", 1, 2}, {"```", 2, 1}, {"```", 3, 0},
		{"a``b`", 0, 0}, {"a``b`", 1, 2}, {"a``b`", 2, 1}, {"a``b`", 3, 0}, {"a``b`", 4, 1}, {"a``b`", 5, 0},
		{"``\n`", 0, 2}, {"\\``", 1, 2}, {"'`", 0, 0}, {"é`", 2, 1},
		{"```", math.MinInt, 0}, {"```", math.MaxInt, 0}, {"```", math.MinInt + 3, 0}, {"```", 1 << 32, 0}, {"```", -1 << 32, 0},
		{strings.Repeat("`", 5000), 1, 4999},
	} {
		if got := Ticks(c.s, c.at); got != c.want {
			t.Errorf("Ticks of %d bytes (%.20q) at %d: %d, not %d", len(c.s), c.s, c.at, got, c.want)
		}
	}
}

// P8.2: what is clean, and what isn't.
func TestClean(t *testing.T) {
	for _, c := range []struct {
		s    string
		want bool
	}{
		{"", true}, {"a", true}, {"a b", true}, {"a  b", true}, {"a\tb", true}, {"a\nb", true}, {"a\nb\nc", true}, {"é\n*", true}, {"\\*[]`", true},
		{" ", false}, {"\t", false}, {"\n", false}, {"\r", false},
		{" a", false}, {"a ", false}, {"\ta", false}, {"a\t", false}, {"\na", false}, {"a\n", false},
		{"a\n\nb", false}, {"a\n\n\nb", false}, {"a \nb", false}, {"a\n b", false}, {"a\t\nb", false}, {"a\n\tb", false}, {"a\n \nb", false},
		{"a\rb", false}, {"a\r\nb", false}, {"a\r", false},
		{"a\x00b", false}, {"\x00", false}, {"a\xff", false}, {"\xe2\x82", false}, {"\xed\xa0\x80", false}, {"\xc0\x80", false},
		{"a\vb", true}, {"\v", true}, {"a\f\nb", true}, {"\u00a0a", true}, {"a\u2028\nb", true}, {"\u0085", true},
	} {
		if got := Clean(c.s); got != c.want {
			t.Errorf("Clean(%q): %v", c.s, got)
		}
		if got := cleanByWords(c.s); got != c.want {
			t.Errorf("the chapter's words, of %q: %v", c.s, got)
		}
	}
}

// P8.2: all short texts, and any two bytes within others and alone, held against the chapter's words.
func TestCleanOfShortTexts(t *testing.T) {
	hold := func(s string) {
		if got := Clean(s); got != cleanByWords(s) {
			t.Fatalf("Clean(%q): %v", s, got)
		}
	}
	eachOf(6, []string{"a", " ", "\t", "\n", "\r", "é"}, hold)
	eachOf(4, []string{"\xe2", "\x82", "\xac", "\x00", "\n", "a"}, hold)
	for a := range 256 {
		for b := range 256 {
			s := string([]byte{byte(a), byte(b)})
			hold(s)
			hold("x" + s + "y")
		}
	}
}

// P8.2: a text has at most MaxText bytes.
func TestCleanOfLongTexts(t *testing.T) {
	full := strings.Repeat("a\n", api.MaxText/2-1) + "aa"
	if len(full) != api.MaxText || !Clean(full) {
		t.Error("a text of MaxText bytes isn't clean")
	}
	if Clean(full + "a") {
		t.Error("more than MaxText bytes are clean")
	}
	if Clean(full[1:] + "a") {
		t.Error("a text that begins with LF is clean")
	}
	if Clean(full[:api.MaxText-1] + " ") {
		t.Error("a text that ends with a space is clean")
	}
}

// P8.3: what is read of a clean text is in normal form: all short texts.
func TestCleanTextsAreReadInNormalForm(t *testing.T) {
	cleans := 0
	eachOf(5, []string{"a", "é", " ", "\t", "\n", "\\", "*", "`", "[", "](x)", "]", "!"}, func(s string) {
		if !Clean(s) {
			return
		}
		cleans++
		if got := Parse(s); !span.Right(got) {
			t.Fatalf("Parse(%q): %+v: not in normal form", s, got)
		}
	})
	if cleans < 10000 {
		t.Errorf("only %d were clean", cleans)
	}
}

// P8.3: a text without the bytes that are read otherwise is one Text.
func TestOtherTextsAreReadAsOneText(t *testing.T) {
	others := make([]string, 0, 256)
	for b := range 256 {
		if strings.IndexByte("\\*[]`", byte(b)) < 0 {
			others = append(others, string([]byte{byte(b)}))
		}
	}
	for _, s := range append(others, strings.Join(others, ""), "a b\nc", "(x)", "#>-_~", "<a>", "é \u2028", strings.Repeat("ab \n", 300000)) {
		got := Parse(s)
		if len(got) != 1 || got[0].Kind != api.Text || got[0].S != s || len(got[0].Kids) > 0 {
			t.Errorf("Parse of %d bytes (%.20q): %d spans", len(s), s, len(got))
		}
	}
	eachOf(4, []string{"a", " ", "\n", "\r", "é", "(x)", ")", "\xff", "#"}, func(s string) {
		if got := Parse(s); s != "" && !span.Same(got, list(text(s))) {
			t.Fatalf("Parse(%q): %+v", s, got)
		}
	})
}

// R2: what a span's kind doesn't use is empty.
func TestParseTellsNothingElse(t *testing.T) {
	for _, s := range Parse("a *b* `c` [d](e)") {
		if (s.Kind == api.Text || s.Kind == api.Code) && len(s.Kids) > 0 || s.Kind == api.Emph && s.S != "" {
			t.Errorf("%+v", s)
		}
	}
}

// R3, R6: no two lists of an answer, and no two answers, share their memory.
func TestAnswersShareNothing(t *testing.T) {
	const s = "a *b `c` [d](e) f* [g *h* i](j)*k**l* [m](n)"
	first, second, want := Parse(s), Parse(s), parseByWords(s)
	spoil(first)
	if !span.Same(second, want) || !span.Same(Parse(s), want) {
		t.Error("an answer was spoilt by another one")
	}
	for i := range second {
		_ = append(second[i].Kids, text("x"), text("y"), text("z"))
		_ = append(second[:i:i], second[i:]...)
	}
	if !span.Same(second, want) {
		t.Error("a list was spoilt by another one's growing")
	}
}

// spoil overwrites all spans of a list, and what lies behind its length.
func spoil(l []api.Span) {
	for _, s := range l {
		spoil(s.Kids)
	}
	l = l[:cap(l)]
	for i := range l {
		l[i] = api.Span{Kind: -1, S: "spoilt"}
	}
}

// R1: great texts of what might be looked for again and again are read at once.
func TestParseOfGreatTexts(t *testing.T) {
	fill := func(piece string) string { return strings.Repeat(piece, api.MaxText/len(piece)) }
	for _, c := range []struct {
		name string
		s    string
		want int
	}{
		{"stars", fill("*"), 1},
		{"stars between letters", fill("a*"), api.MaxText / 2},
		{"[", fill("["), 1},
		{"* and [", fill("*["), api.MaxText / 2},
		{"[ and one link", fill("[") + "a](x)", 1},
		{"[ and a long place to go to", fill("[")[1<<19:] + "a](" + fill("a")[1<<19:], 1},
		{"](", fill("]("), 1},
		{"[a](", fill("[a]("), 1},
		{"[a](x", fill("[a](x"), 1},
		{"[*a](x)", fill("[*a](x)"), api.MaxText / 7},
		{"[*a", fill("[*aa"), api.MaxText/4 + 1},
		{"`", fill("`"), 1},
		{"` between letters", fill("`a"), api.MaxText / 2},
		{"` escaped, and a `", fill("\\``"), 1},
		{"` escaped, a ` and a letter", fill("\\``a"), 1},
		{"` in many lines", fill("`\n"), 1},
		{"a ` more each", longer("a"), 1},
		{"a ` more each, one escaped", longer("\\`"), 1},
		{"a ` less each", reversed(longer("a")), 1},
		{"\\", fill("\\"), 1},
		{"LF", fill("\n"), 1},
	} {
		got := Parse(c.s)
		if len(got) != c.want {
			t.Errorf("%s: %d spans, not %d", c.name, len(got), c.want)
		}
		if Clean(c.s) && !span.Right(got) {
			t.Errorf("%s: not in normal form", c.name)
		}
	}
}

// longer are backticks, one more each time, with something ahead of them.
func longer(ahead string) string {
	var out strings.Builder
	for n := 1; out.Len() < api.MaxText-2000; n++ {
		out.WriteString(ahead + strings.Repeat("`", n))
	}
	return out.String()
}

// reversed is s from its end on.
func reversed(s string) string {
	b := []byte(s)
	slices.Reverse(b)
	return string(b)
}

// P8.1, and the document's word 'text': a link goes to MaxText bytes, and not to more.
func TestParseOfLongDests(t *testing.T) {
	full := strings.Repeat("a", api.MaxText)
	if got := Parse("[a](" + full + ")"); !span.Same(got, list(link(full, text("a")))) {
		t.Error("a link doesn't go to MaxText bytes")
	}
	if got := Parse("[a](" + full + "a)"); !span.Same(got, list(text("[a]("+full+"a)"))) {
		t.Error("a link goes to more than MaxText bytes")
	}
}
