package write

import (
	"regexp"
	"slices"
	"strings"
	"testing"

	"emendation/api"
	"emendation/parse"
	"emendation/spanout"
	"emendation/tree"
	"emendation/utf"
)

// filled and empty are the lines of a text that have something, and that have nothing.
var filled, empty = regexp.MustCompile(`(?m)^(.)`), regexp.MustCompile(`(?m)^$`)

// textByWords is blocks as they are written in the chapter's words, as one text without an LF at its end.
func textByWords(l []api.Block) string {
	var all []string
	for _, b := range l {
		all = append(all, oneByWords(b))
	}
	return strings.Join(all, "\n\n")
}

// oneByWords is one block as it is written, likewise.
func oneByWords(b api.Block) string {
	spans, _ := spanout.Write(b.Spans)
	switch b.Kind {
	case api.Para:
		return spans
	case api.Heading:
		return strings.TrimSuffix("######"[:b.Level]+" "+spans, " ")
	case api.Rule:
		return "---"
	case api.Fence:
		ticks := strings.Repeat("`", ticksByWords(b.Lines))
		return strings.Join(append(append([]string{ticks + b.Info}, b.Lines...), ticks), "\n")
	case api.Quote:
		return empty.ReplaceAllString(filled.ReplaceAllString(textByWords(b.Kids), "> $1"), ">")
	case api.Def:
		return "[" + b.Info + "]: " + b.Lines[0]
	}
	var items []string
	for _, item := range b.Kids {
		further := filled.ReplaceAllString(textByWords(item.Kids), "  $1")
		items = append(items, "-"+strings.TrimPrefix(further, " "))
	}
	return strings.Join(items, "\n")
}

// ticksByWords is how many backticks open a Fence of lines, tried one by one.
func ticksByWords(l []string) int {
	for n := 3; ; n++ {
		if !slices.ContainsFunc(l, func(s string) bool { return strings.Contains(s, strings.Repeat("`", n)) }) {
			return n
		}
	}
}

// hold holds all functions, of blocks in normal form, against the chapter's words and against reading.
func hold(t *testing.T, l []api.Block) {
	t.Helper()
	var want []string
	whole := ""
	if len(l) > 0 {
		whole = textByWords(l) + "\n"
		want = strings.Split(whole[:len(whole)-1], "\n")
	}
	got, e := Lines(l)
	if e != api.OK || !slices.Equal(got, want) {
		t.Fatalf("Lines(%+v): %q, %d, not %q", l, got, e, want)
	}
	if got, e := Document(l); e != api.OK || got != whole {
		t.Fatalf("Document(%+v): %q, %d, not %q", l, got, e, whole)
	}
	if back, e := parse.Lines(got); e != api.OK || !tree.Same(back, l) {
		t.Fatalf("%q: of %+v, read as %+v, %d", got, l, back, e)
	}
	e = utf.Check([]byte(whole))
	if e != api.OK && (e != api.ErrLong || len(whole) <= api.MaxText) {
		t.Fatalf("Document(%+v): %q is no text: %d", l, whole, e)
	}
	if back, again := parse.Document(whole); again != e || e == api.OK && !tree.Same(back, l) {
		t.Fatalf("%q: of %+v, read as %+v, %d", whole, l, back, again)
	}
}

// holdWrong holds that what isn't in normal form isn't written.
func holdWrong(t *testing.T, l []api.Block) {
	t.Helper()
	if got, e := Lines(l); e != api.ErrForm || len(got) > 0 {
		t.Errorf("Lines(%+v): %q, %d", l, got, e)
	}
	if got, e := Document(l); e != api.ErrForm || got != "" {
		t.Errorf("Document(%+v): %q, %d", l, got, e)
	}
}

// holdAny holds blocks, be they in normal form or not, and answers whether they are.
func holdAny(t *testing.T, l []api.Block) bool {
	t.Helper()
	if !tree.Right(l) {
		holdWrong(t, l)
		return false
	}
	hold(t, l)
	return true
}
