package kind

import (
	"math"
	"math/rand/v2"
	"regexp"
	"slices"
	"strings"
	"testing"
	"unicode/utf8"

	"emendation/api"
	"emendation/tree"
)

// The chapter's words for the kinds of lines, in their order; of a definition, but for what a text is.
var (
	blankByWords   = regexp.MustCompile(`^[ \t]*$`)
	headingByWords = regexp.MustCompile(`(?s)^(#{1,6})($| .*$)`)
	ruleByWords    = regexp.MustCompile(`^-{3,}$`)
	fenceByWords   = regexp.MustCompile("^(`{3,})([^`]*)$")
	quoteByWords   = regexp.MustCompile(`(?s)^> ?(.*)$`)
	itemByWords    = regexp.MustCompile(`(?s)^-(?: (.*))?$`)
	defByWords     = regexp.MustCompile(`^\[([^\[\]\\\n\r \t](?:[^\[\]\\\n\r]*[^\[\]\\\n\r \t])?)\]: ([a-zA-Z0-9./_#?&:%-]+)$`)
	closeByWords   = regexp.MustCompile("^`+$")
	innerByWords   = regexp.MustCompile(`(?s)^  (.*)$`)
	ordered        = []*regexp.Regexp{blankByWords, headingByWords, ruleByWords, fenceByWords, quoteByWords, itemByWords, defByWords}
)

// isText tells whether s is a text, but for how long it is.
func isText(s string) bool { return utf8.ValidString(s) && !strings.Contains(s, "\x00") }

// kindByWords is a line's kind, in the chapter's words.
func kindByWords(s string) int {
	for i, words := range ordered {
		if words.MatchString(s) && (words != defByWords || isText(s)) {
			return i + 1
		}
	}
	return 8
}

// tightByWords is s without Spaces at its ends.
func tightByWords(s string) string { return strings.Trim(s, " \t") }

// told is what all functions answer of a line.
type told struct {
	kind, level, ticks         int
	head, info, unquote, first string
	inner                      string
	isInner                    bool
	label, to                  string
}

// toldOf is what all functions answer of s.
func toldOf(t *testing.T, s string) told {
	t.Helper()
	x := told{kind: Of(s), unquote: Unquote(s), first: Unitem(s)}
	x.level, x.head = Head(s)
	x.ticks, x.info = Open(s)
	x.inner, x.isInner = Inner(s)
	b := Define(s)
	x.label = b.Info
	if len(b.Lines) > 0 {
		x.to = b.Lines[0]
	}
	want := api.Block{}
	if x.kind == Def {
		want = api.Block{Kind: api.Def, Info: x.label, Lines: []string{x.to}}
		if !tree.Right([]api.Block{b}) {
			t.Fatalf("Define(%q): %+v, not in normal form", s, b)
		}
	}
	if !tree.Same([]api.Block{b}, []api.Block{want}) {
		t.Fatalf("Define(%q): %+v, not %+v", s, b, want)
	}
	return x
}

// toldByWords is what all functions answer of s, in the chapter's words.
func toldByWords(s string) told {
	x := told{kind: kindByWords(s)}
	switch x.kind {
	case 2:
		x.level = len(headingByWords.FindStringSubmatch(s)[1])
		x.head = tightByWords(s[x.level:])
	case 4:
		parts := fenceByWords.FindStringSubmatch(s)
		x.ticks, x.info = len(parts[1]), tightByWords(parts[2])
	case 5:
		x.unquote = quoteByWords.FindStringSubmatch(s)[1]
	case 6:
		x.first = itemByWords.FindStringSubmatch(s)[1]
	case 7:
		parts := defByWords.FindStringSubmatch(s)
		x.label, x.to = parts[1], parts[2]
	}
	if parts := innerByWords.FindStringSubmatch(s); parts != nil {
		x.inner, x.isInner = parts[1], true
	} else {
		x.isInner = blankByWords.MatchString(s)
	}
	return x
}

// holdTold holds what is told of s, and what Closes tells at some numbers, against the chapter's words, and answers s's kind.
func holdTold(t *testing.T, s string) int {
	t.Helper()
	got, want := toldOf(t, s), toldByWords(s)
	if got != want {
		t.Fatalf("of %q: %+v, not %+v", s, got, want)
	}
	for _, n := range []int{math.MinInt, -1, 0, 1, len(s) - 1, len(s), len(s) + 1, math.MaxInt} {
		if c := Closes(s, n); c != (closeByWords.MatchString(s) && len(s) >= n) {
			t.Fatalf("Closes(%q, %d): %v", s, n, c)
		}
	}
	return got.kind
}

// stringsOf are all texts of at most n of some pieces.
func stringsOf(n int, pieces ...string) []string {
	out, last := []string{""}, []string{""}
	for range n {
		var next []string
		for _, s := range last {
			for _, p := range pieces {
				next = append(next, s+p)
			}
		}
		out, last = append(out, next...), next
	}
	return out
}

// P11.1: the kinds have the numbers that the chapter names.
func TestKinds(t *testing.T) {
	if l := []int{Blank, Heading, Rule, Fence, Quote, Item, Def, Plain}; !slices.Equal(l, []int{1, 2, 3, 4, 5, 6, 7, 8}) {
		t.Errorf("the kinds are %v", l)
	}
}

// P11.1: each kind, at each edge that the chapter names.
func TestOf(t *testing.T) {
	for _, c := range []struct {
		want int
		l    []string
	}{
		{Blank, []string{"", " ", "\t", "  ", " \t \t"}},
		{Heading, []string{"#", "# ", "# a", "## a", "######", "###### a", "#  a # ", "# #", "# \t", "# é", "# ---"}},
		{Rule, []string{"---", "----", strings.Repeat("-", 100)}},
		{Fence, []string{"```", "````", "```go", "``` go run ", "```\t", "```~", "```#", "```\\"}},
		{Quote, []string{">", "> ", ">a", "> a", ">> a", "> > a", ">- a", ">\ta", "># a", ">\\>"}},
		{Item, []string{"-", "- ", "- a", "-  a", "- - a", "- -", "- ---", "- # a", "- \t"}},
		{Def, []string{"[a]: b", "[a b]: /c#d", "[*a*]: -", "[é]: a", "[a:]: b", "[-]: ?", "[`]: %"}},
		{Plain, []string{
			"a", "a b", "é", "\v", "\u00a0", "\u2003", "0", "\\", "\\# a", "*", "* a", "+ a", "1. a", "_", "===", "~~~", "***", "|",
			"#a", "#\t", "#\ta", "##a", "######a", "#######", "####### a", " # a", "\t# a", "#\\ a",
			"--", "--a", "---a", "--- ", "--- a", " ---", "-- -", "--\t", "---\t",
			"`", "``", "`` a", "``a``", "```a`", "```a```", "``` `", "` ```", " ```", "`a```", "~```",
			" >", "\t>", "<", " > a", "\\> a",
			"-a", "-\t", "-\ta", " -", " - a", "-é", "->", "-`",
			"[a]", "[a]:", "[a]: ", "[a]:b", "[a]:\tb", "[a]:  b", "[a]: b ", "[a]: b c", "[a]: é", "[a]: [b]", "[a] : b", "[a]b: c", "[a] b",
			"[]: b", "[ ]: b", "[ a]: b", "[a ]: b", "[\ta]: b", "[a\t]: b", "[[]: b", "[a[]: b", "[a]]: b", "[a[b]]: c", "[a\\]: b", "[a\\]b]: c", "[\\a]: b",
			" [a]: b", "\t[a]: b", "a]: b", "[a: b", "[", "[]", "]", "[a]: b]: c", "[a](b)", "[a](b): c", "(a): b", "[a\x00]: b", "[a\xff]: b", "[a]: \xff", "[\xc3\xa9\x80]: b",
		}},
	} {
		for _, s := range c.l {
			if got := Of(s); got != c.want {
				t.Errorf("Of(%q): %d, not %d", s, got, c.want)
			}
			if kindByWords(s) != c.want {
				t.Errorf("the chapter's words, of %q: not %d", s, c.want)
			}
		}
	}
}

// P11.2: a heading's level and its text, without Spaces at its ends.
func TestHead(t *testing.T) {
	for _, c := range []struct {
		s     string
		level int
		text  string
	}{
		{"## a", 2, "a"},
		{"#", 1, ""},
		{"# ", 1, ""},
		{"#  \t ", 1, ""},
		{"###### a b", 6, "a b"},
		{"#\t a", 0, ""},
		{"# \t a  b\t ", 1, "a  b"},
		{"# a #", 1, "a #"},
		{"# # a", 1, "# a"},
		{"# \u00a0a\u00a0", 1, "\u00a0a\u00a0"},
		{"# \\# ", 1, "\\#"},
		{"####### a", 0, ""},
		{"#a", 0, ""},
		{" # a", 0, ""},
		{"", 0, ""},
		{"a", 0, ""},
		{"> # a", 0, ""},
	} {
		if level, text := Head(c.s); level != c.level || text != c.text {
			t.Errorf("Head(%q): %d, %q, not %d, %q", c.s, level, text, c.level, c.text)
		}
	}
}

// P11.2: how many backticks a fence has, and its info, without Spaces at its ends.
func TestOpen(t *testing.T) {
	for _, c := range []struct {
		s    string
		n    int
		info string
	}{
		{"```", 3, ""},
		{"````", 4, ""},
		{"```go", 3, "go"},
		{"````` \t go  run\t ", 5, "go  run"},
		{"``` ", 3, ""},
		{"```# a", 3, "# a"},
		{"```\u00a0", 3, "\u00a0"},
		{"``", 0, ""},
		{"``go", 0, ""},
		{"```go`", 0, ""},
		{"```go```", 0, ""},
		{" ```", 0, ""},
		{"~~~", 0, ""},
		{"", 0, ""},
		{"# ```", 0, ""},
	} {
		if n, info := Open(c.s); n != c.n || info != c.info {
			t.Errorf("Open(%q): %d, %q, not %d, %q", c.s, n, info, c.n, c.info)
		}
	}
}

// P11.2: a fence is closed by as many backticks as are asked or more, at least one, and nothing else.
func TestCloses(t *testing.T) {
	for _, c := range []struct {
		s    string
		n    int
		want bool
	}{
		{"```", 3, true},
		{"````", 3, true},
		{"``", 3, false},
		{"``", 2, true},
		{"`", 1, true},
		{"`", 0, true},
		{"`", -1, true},
		{"`", math.MinInt, true},
		{"```", math.MaxInt, false},
		{"", 0, false},
		{"", -1, false},
		{"", 1, false},
		{"``` ", 3, false},
		{" ```", 3, false},
		{"```a", 3, false},
		{"a```", 3, false},
		{"``a``", 2, false},
		{"```\n", 3, false},
		{"```\x00", 3, false},
		{"~~~", 3, false},
		{"---", 3, false},
	} {
		if got := Closes(c.s, c.n); got != c.want {
			t.Errorf("Closes(%q, %d): %v", c.s, c.n, got)
		}
	}
	for n := range 40 {
		for asked := -2; asked < 42; asked++ {
			if got := Closes(strings.Repeat("`", n), asked); got != (n >= 1 && n >= asked) {
				t.Errorf("Closes of %d backticks, at %d: %v", n, asked, got)
			}
		}
	}
}

// P11.2: a quote's and an item's line without the mark, and without one space that stands next.
func TestUnquoteAndUnitem(t *testing.T) {
	for _, c := range []struct{ s, quote, item string }{
		{">", "", ""},
		{"> ", "", ""},
		{">  ", " ", ""},
		{">a", "a", ""},
		{"> a", "a", ""},
		{">  a ", " a ", ""},
		{">\ta", "\ta", ""},
		{"> \ta", "\ta", ""},
		{"> > a", "> a", ""},
		{">> a", "> a", ""},
		{"> - a", "- a", ""},
		{"-", "", ""},
		{"- ", "", ""},
		{"-  ", "", " "},
		{"- a", "", "a"},
		{"-  a ", "", " a "},
		{"- \ta", "", "\ta"},
		{"- - a", "", "- a"},
		{"- > a", "", "> a"},
		{"- -", "", "-"},
		{"- ---", "", "---"},
		{"--- ", "", ""},
		{"---", "", ""},
		{"-a", "", ""},
		{"-\ta", "", ""},
		{" > a", "", ""},
		{" - a", "", ""},
		{"a> b", "", ""},
		{"a- b", "", ""},
		{"", "", ""},
	} {
		if got := Unquote(c.s); got != c.quote {
			t.Errorf("Unquote(%q): %q, not %q", c.s, got, c.quote)
		}
		if got := Unitem(c.s); got != c.item {
			t.Errorf("Unitem(%q): %q, not %q", c.s, got, c.item)
		}
	}
}

// P11.2: a definition's label and place, as a block in normal form; of another line the zero block.
func TestDefine(t *testing.T) {
	for _, c := range []struct{ s, label, to string }{
		{"[a]: b", "a", "b"},
		{"[A  b]: https://c.d/e?f&g#h:80%20", "A  b", "https://c.d/e?f&g#h:80%20"},
		{"[a: b]: c", "a: b", "c"},
		{"[*é*`]: -", "*é*`", "-"},
	} {
		want := []api.Block{{Kind: api.Def, Info: c.label, Lines: []string{c.to}}}
		if got := []api.Block{Define(c.s)}; !tree.Same(got, want) || !tree.Right(got) {
			t.Errorf("Define(%q): %+v", c.s, got)
		}
	}
	for _, s := range []string{"", "a", "# a", "> [a]: b", "[a]:b", "[a]: ", "[]: b", "[ a]: b", "[a]: b c", "[a\\]: b", "[a]: é", " [a]: b"} {
		if got := []api.Block{Define(s)}; !tree.Same(got, []api.Block{{}}) {
			t.Errorf("Define(%q): %+v", s, got)
		}
	}
	own := Define("[a]: b")
	own.Lines[0] = "c"
	if Define("[a]: b").Lines[0] != "b" {
		t.Error("two answers share a line")
	}
}

// P11.3: a line further on of an item.
func TestInner(t *testing.T) {
	for _, c := range []struct {
		s, inner string
		ok       bool
	}{
		{"  a", "a", true},
		{"   a", " a", true},
		{"    a ", "  a ", true},
		{"  \ta", "\ta", true},
		{"  - a", "- a", true},
		{"  ", "", true},
		{"   ", " ", true},
		{"  \t", "\t", true},
		{"", "", true},
		{" ", "", true},
		{"\t", "", true},
		{" \t", "", true},
		{" \t  ", "", true},
		{"\t  ", "", true},
		{"a", "", false},
		{" a", "", false},
		{"\ta", "", false},
		{" \ta", "", false},
		{"\t  a", "", false},
		{"- a", "", false},
		{"-", "", false},
		{"\v", "", false},
		{"\u00a0\u00a0a", "", false},
	} {
		if inner, ok := Inner(c.s); inner != c.inner || ok != c.ok {
			t.Errorf("Inner(%q): %q, %v, not %q, %v", c.s, inner, ok, c.inner, c.ok)
		}
	}
}

// P11.1, P11.2, P11.3: all short lines, held against the chapter's words.
func TestShortLines(t *testing.T) {
	for _, s := range stringsOf(6, "#", "-", "`", ">", "a", " ", "\t") {
		holdTold(t, s)
	}
	for _, s := range stringsOf(8, "#", " ", "a") {
		holdTold(t, s)
	}
	for _, s := range stringsOf(5, "# ", "- ", "> ", "```", "\n", "\r", "\xff", "\x00", "é") {
		holdTold(t, s)
	}
}

// P11.1, P11.2: all lines of a few pieces of definitions, held against the chapter's words.
func TestShortDefs(t *testing.T) {
	defs := 0
	for _, s := range stringsOf(6, "[", "]", "]: ", ":", " ", "a", "\\", "é", "\t") {
		if holdTold(t, s) == Def {
			defs++
		}
	}
	inner := stringsOf(3, "a", " ", "\t", "\\", "[", "]", "\n", "\r", "\x00", "\xff", "é", ":")
	for _, label := range inner {
		for _, to := range []string{"a", "", " a", "a ", "é", "a]: b"} {
			if holdTold(t, "["+label+"]: "+to) == Def {
				defs++
			}
		}
	}
	for _, to := range inner {
		if holdTold(t, "[a b]: "+to) == Def {
			defs++
		}
	}
	if defs < 200 {
		t.Errorf("only %d were definitions", defs)
	}
}

// P11.1, P11.2, P11.3: every byte, and any two, behind what lines begin with.
func TestBytes(t *testing.T) {
	for a := range 256 {
		for b := range 256 {
			holdTold(t, string([]byte{byte(a), byte(b)}))
			holdTold(t, string([]byte{'[', byte(a), ']', ':', ' ', byte(b)}))
		}
		for _, s := range []string{"#", "######", "# ", "--", "---", "``", "```", ">", "> ", "-", "- ", " ", "  ", "[a", "[a]", "[a]:", "[a]: ", "[a]: b"} {
			holdTold(t, s+string([]byte{byte(a)}))
			holdTold(t, s+string([]byte{byte(a), 'x'}))
			holdTold(t, string([]byte{byte(a)})+s)
		}
	}
}

// P11.1, P11.2, P11.3: mixed lines, held against the chapter's words.
func TestMixedLines(t *testing.T) {
	r := rand.New(rand.NewPCG(11, 1))
	begins := []string{"", "#", "##", "######", "#######", "---", "-", "- ", "```", "````", "> ", ">", "[", "[a]: ", "  ", " "}
	pieces := []string{"a", "b c", " ", "\t", "#", "-", "`", ">", "]: ", "[", "]", ":", "/", "é", "\\", "\n", "\xe2\x82", "---", "```"}
	var seen [9]int
	for range 300000 {
		s := begins[r.IntN(len(begins))]
		for range r.IntN(6) {
			s += pieces[r.IntN(len(pieces))]
		}
		seen[holdTold(t, s)]++
	}
	for k, n := range seen[1:] {
		if n < 500 {
			t.Errorf("only %d were of kind %d", n, k+1)
		}
	}
}

// P11.2: what a line has within is the line that it was made of: marks are put on, and taken off.
func TestMarksOffAsPutOn(t *testing.T) {
	for _, s := range stringsOf(4, "a", " ", "\t", "-", ">", "#", "`", "é") {
		if got := Unquote("> " + s); got != s {
			t.Fatalf("Unquote(%q): %q", "> "+s, got)
		}
		if got := Unitem("- " + s); got != s {
			t.Fatalf("Unitem(%q): %q", "- "+s, got)
		}
		if got, ok := Inner("  " + s); got != s || !ok {
			t.Fatalf("Inner(%q): %q, %v", "  "+s, got, ok)
		}
	}
}

// R1, P11.1: lines as long as a text may be, and longer; a label, and a place, are texts, so have at most MaxText bytes.
func TestLongLines(t *testing.T) {
	for _, n := range []int{api.MaxText - 1, api.MaxText, api.MaxText + 1} {
		long := strings.Repeat("a", n)
		want := Def
		if n > api.MaxText {
			want = Plain
		}
		for _, s := range []string{"[" + long + "]: a", "[a]: " + long, "[" + long + "]: " + long} {
			if got := Of(s); got != want {
				t.Errorf("a definition with %d bytes: %d", n, got)
			}
			if got := Define(s); (got.Kind == api.Def) != (want == Def) {
				t.Errorf("Define with %d bytes: of kind %d", n, got.Kind)
			}
		}
		if b := Define("[a]: " + long); want == Def && b.Lines[0] != long {
			t.Errorf("Define with %d bytes: another place", n)
		}
		if level, text := Head("# " + long + " "); level != 1 || text != long {
			t.Errorf("Head with %d bytes: %d", n, level)
		}
		if ticks, info := Open(strings.Repeat("`", n) + "a"); ticks != n || info != "a" {
			t.Errorf("Open with %d bytes: %d, %d", n, ticks, len(info))
		}
		if ticks, info := Open("```" + long); ticks != 3 || info != long {
			t.Errorf("Open with an info of %d bytes: %d, %d", n, ticks, len(info))
		}
		if s := strings.Repeat("`", n); !Closes(s, n) || Closes(s, n+1) || Closes(s+"a", 1) {
			t.Errorf("Closes with %d bytes", n)
		}
		if Unquote("> "+long) != long || Unitem("- "+long) != long {
			t.Errorf("Unquote or Unitem with %d bytes", n)
		}
		if s, ok := Inner("  " + long); s != long || !ok {
			t.Errorf("Inner with %d bytes", n)
		}
		for s, want := range map[string]int{strings.Repeat(" ", n): Blank, strings.Repeat("-", n): Rule, strings.Repeat("#", n): Plain, strings.Repeat("[", n): Plain, long: Plain} {
			if got := Of(s); got != want {
				t.Errorf("Of with %d bytes %q: %d", n, s[0], got)
			}
		}
	}
}
