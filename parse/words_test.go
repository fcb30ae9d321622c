package parse

import (
	"slices"
	"strings"
	"testing"

	"emendation/api"
	"emendation/kind"
	"emendation/spanin"
	"emendation/tree"
)

// placed is a block, and where its lines lie.
type placed struct {
	block api.Block
	at    [2]int
}

// words reads lines in the chapter's words, however deep.
type words struct{ l []string }

// placesByWords is what lines tell at the top, and where that lies.
func placesByWords(l []string) []placed {
	var out []placed
	for at := 0; at < len(l); {
		block, to := words{l}.next(at)
		if block.Kind != 0 {
			out = append(out, placed{block, [2]int{at, to}})
		}
		at = to
	}
	return out
}

// blocksByWords is what lines tell.
func blocksByWords(l []string) []api.Block {
	var out []api.Block
	for _, p := range placesByWords(l) {
		out = append(out, p.block)
	}
	return out
}

// next is the block that begins at a place (none, if the line there is Blank), and the place behind it.
func (w words) next(at int) (api.Block, int) {
	s := w.l[at]
	switch kind.Of(s) {
	case kind.Blank:
		return api.Block{}, at + 1
	case kind.Heading:
		level, title := kind.Head(s)
		return heading0(level, spanin.Parse(title)...), at + 1
	case kind.Rule:
		return rule0, at + 1
	case kind.Def:
		return kind.Define(s), at + 1
	case kind.Fence:
		return w.fence(at)
	case kind.Item:
		return w.list(at)
	case kind.Quote:
		return w.quote(at)
	}
	return w.para(at)
}

// fence is the Fence that begins at a place.
func (w words) fence(at int) (api.Block, int) {
	n, info := kind.Open(w.l[at])
	out := fence0(info)
	for i, s := range w.l[at+1:] {
		if kind.Closes(s, n) {
			return out, at + i + 2
		}
		out.Lines = append(out.Lines, s)
	}
	return out, len(w.l)
}

// quote is the Quote that begins at a place.
func (w words) quote(at int) (api.Block, int) {
	var inner []string
	for ; at < len(w.l) && kind.Of(w.l[at]) == kind.Quote; at++ {
		inner = append(inner, kind.Unquote(w.l[at]))
	}
	return quote0(blocksByWords(inner)...), at
}

// para is the Para that begins at a place.
func (w words) para(at int) (api.Block, int) {
	whole := strings.Trim(w.l[at], " \t")
	for at++; at < len(w.l) && kind.Of(w.l[at]) == kind.Plain; at++ {
		whole += "\n" + strings.Trim(w.l[at], " \t")
	}
	return para0(spanin.Parse(whole)...), at
}

// list is the List that begins at a place. Blank lines wait, till what stands behind them tells whether they are an Item's.
func (w words) list(at int) (api.Block, int) {
	var all [][]string
	var waiting []string
	behind := at
	for i, s := range w.l[at:] {
		inner, further := kind.Inner(s)
		switch {
		case kind.Of(s) == kind.Blank:
			waiting = append(waiting, inner)
			continue
		case further:
			last := len(all) - 1
			all[last] = append(append(all[last], waiting...), inner)
		case kind.Of(s) == kind.Item:
			all = append(all, []string{kind.Unitem(s)})
		default:
			return listOf(all), behind
		}
		waiting, behind = nil, at+i+1
	}
	return listOf(all), behind
}

// listOf is a List of Items of such lines.
func listOf(all [][]string) api.Block {
	out := list0()
	for _, l := range all {
		out.Kids = append(out.Kids, item0(blocksByWords(l)...))
	}
	return out
}

// holdLines holds all functions, of lines of a text, against the chapter's words and against normal form, and answers how many containers lie one in the other.
func holdLines(t *testing.T, l []string) int {
	t.Helper()
	var want []api.Block
	var places [][2]int
	for _, p := range placesByWords(l) {
		want, places = append(want, p.block), append(places, p.at)
	}
	deep, wantErr := tree.Deep(want), api.OK
	if deep > api.MaxDeep {
		want, wantErr = nil, api.ErrDeep
	}
	if got := Spread(l); !slices.Equal(got, places) {
		t.Fatalf("Spread(%q): %v, not %v", l, got, places)
	}
	got, e := Lines(l)
	if e != wantErr || !tree.Same(got, want) {
		t.Fatalf("Lines(%q): %+v, %d, not %+v, %d", l, got, e, want, wantErr)
	}
	if !tree.Right(got) {
		t.Fatalf("Lines(%q): %+v, not in normal form", l, got)
	}
	if got, e := Document(textOf(l)); e != wantErr || !tree.Same(got, want) {
		t.Fatalf("Document(%q): %+v, %d, not %+v, %d", textOf(l), got, e, want, wantErr)
	}
	return deep
}

// textOf is a text of such lines.
func textOf(l []string) string {
	var out strings.Builder
	for _, s := range l {
		out.WriteString(s + "\n")
	}
	return out.String()
}

// holdLists holds all lists of at most n of some lines.
func holdLists(t *testing.T, n int, of ...string) {
	t.Helper()
	var hold func(l []string)
	hold = func(l []string) {
		holdLines(t, l)
		if len(l) == n {
			return
		}
		for _, s := range of {
			hold(append(slices.Clip(l), s))
		}
	}
	hold(nil)
}
