package tree

import (
	"math"
	"math/rand/v2"
	"regexp"
	"slices"
	"strings"
	"testing"

	"emendation/api"
	"emendation/span"
	"emendation/utf"
)

// text, emph and codeSpan are spans of a kind each.
func text(s string) api.Span         { return api.Span{Kind: api.Text, S: s} }
func codeSpan(s string) api.Span     { return api.Span{Kind: api.Code, S: s} }
func emph(kids ...api.Span) api.Span { return api.Span{Kind: api.Emph, Kids: kids} }

// para, heading, fence, quote, items, item and def are blocks of a kind each; rule is one, too.
func para(l ...api.Span) api.Block { return api.Block{Kind: api.Para, Spans: l} }
func heading(level int, l ...api.Span) api.Block {
	return api.Block{Kind: api.Heading, Level: level, Spans: l}
}
func fence(info string, l ...string) api.Block {
	return api.Block{Kind: api.Fence, Info: info, Lines: l}
}
func quote(kids ...api.Block) api.Block { return api.Block{Kind: api.Quote, Kids: kids} }
func items(kids ...api.Block) api.Block { return api.Block{Kind: api.List, Kids: kids} }
func item(kids ...api.Block) api.Block  { return api.Block{Kind: api.Item, Kids: kids} }
func def(label string, to ...string) api.Block {
	return api.Block{Kind: api.Def, Info: label, Lines: to}
}

var rule = api.Block{Kind: api.Rule}

// list is a list of blocks.
func list(l ...api.Block) []api.Block { return l }

// kinds are all kinds of blocks.
var kinds = []int{api.Para, api.Heading, api.Rule, api.Fence, api.Quote, api.List, api.Item, api.Def}

// noKinds are numbers that are no kinds.
var noKinds = []int{math.MinInt, -8, -1, 0, 9, 10, 1 << 32, 1<<32 + api.Rule, math.MaxInt}

// uses are, of each kind, what it uses: Level, Info, Lines, Spans, Kids.
var uses = map[int]string{
	api.Para: "S", api.Heading: "LS", api.Rule: "", api.Fence: "In", api.Quote: "K", api.List: "K", api.Item: "K", api.Def: "In",
}

// placed is a block, and the blocks that it is in, from without to within, and the one ahead of it, if there is one.
type placed struct {
	block  api.Block
	within []api.Block
	ahead  *api.Block
}

// all are all blocks of a list, those of Kids too.
func all(l []api.Block, within []api.Block) []placed {
	var out []placed
	for i, b := range l {
		p := placed{block: b, within: within}
		if i > 0 {
			p.ahead = &l[i-1]
		}
		out = append(out, p)
		out = append(out, all(b.Kids, append(slices.Clip(within), b))...)
	}
	return out
}

// The chapter's words label, code's line and code's info, but for what a text is; and where a link can go to.
var (
	labelByWords = regexp.MustCompile(`^[^\[\]\\\n\r \t]([^\[\]\\\n\r]*[^\[\]\\\n\r \t])?$`)
	lineByWords  = regexp.MustCompile(`^[^\n\r]*$`)
	infoByWords  = regexp.MustCompile("^([^`\n\r \t]([^`\n\r]*[^`\n\r \t])?)?$")
	destByWords  = regexp.MustCompile(`^[a-zA-Z0-9./_#?&:%-]+$`)
)

// isContainer tells whether a kind is one of a container's.
func isContainer(kind int) bool {
	return slices.Contains([]int{api.Quote, api.List, api.Item}, kind)
}

// unusedByWords tells whether a block has nothing that its kind doesn't use.
func unusedByWords(b api.Block) bool {
	does := func(what string) bool { return strings.Contains(uses[b.Kind], what) }
	return (does("L") || b.Level == 0) && (does("I") || b.Info == "") && (does("n") || len(b.Lines) == 0) &&
		(does("S") || len(b.Spans) == 0) && (does("K") || len(b.Kids) == 0)
}

// placeByWords tells whether a block may stand where it does, in the chapter's words.
func placeByWords(p placed) bool {
	inList := len(p.within) > 0 && p.within[len(p.within)-1].Kind == api.List
	if inList != (p.block.Kind == api.Item) {
		return false
	}
	if p.ahead != nil && p.ahead.Kind == api.List && p.block.Kind == api.List {
		return false
	}
	containers := 0
	for _, b := range append(slices.Clip(p.within), p.block) {
		if isContainer(b.Kind) {
			containers++
		}
	}
	return containers <= 16
}

// blockByWords tells whether a block is as its kind asks, in the chapter's words.
func blockByWords(b api.Block) bool {
	for _, s := range append(slices.Clip(b.Lines), b.Info) {
		if utf.Check([]byte(s)) != api.OK {
			return false
		}
	}
	switch b.Kind {
	case api.Para:
		return span.Right(b.Spans) && len(b.Spans) >= 1
	case api.Heading:
		return 1 <= b.Level && b.Level <= 6 && span.Right(b.Spans) && !strings.Contains(span.Plain(b.Spans), "\n")
	case api.Fence:
		return infoByWords.MatchString(b.Info) && !slices.ContainsFunc(b.Lines, func(s string) bool { return !lineByWords.MatchString(s) })
	case api.List:
		return len(b.Kids) >= 1
	case api.Def:
		return labelByWords.MatchString(b.Info) && len(b.Lines) == 1 && destByWords.MatchString(b.Lines[0])
	}
	return slices.Contains(kinds, b.Kind)
}

// rightByWords tells whether blocks are in normal form, in the chapter's words.
func rightByWords(l []api.Block) bool {
	for _, p := range all(l, nil) {
		if !unusedByWords(p.block) || !placeByWords(p) || !blockByWords(p.block) {
			return false
		}
	}
	return true
}

// deepByWords is how many containers lie one in the other at most, in the chapter's words.
func deepByWords(l []api.Block) int {
	most := 0
	for _, p := range all(l, nil) {
		n := 0
		for _, b := range append(slices.Clip(p.within), p.block) {
			if isContainer(b.Kind) {
				n++
			}
		}
		most = max(most, n)
	}
	return most
}

// copied is a list in memory of its own.
func copied(l []api.Block) []api.Block {
	out := make([]api.Block, len(l))
	for i, b := range l {
		out[i] = b
		out[i].Lines = slices.Clone(b.Lines)
		out[i].Spans = copiedSpans(b.Spans)
		out[i].Kids = copied(b.Kids)
	}
	return out
}

// copiedSpans are spans in memory of their own.
func copiedSpans(l []api.Span) []api.Span {
	out := make([]api.Span, len(l))
	for i, s := range l {
		out[i] = api.Span{Kind: s.Kind, S: strings.Clone(s.S), Kids: copiedSpans(s.Kids)}
	}
	return out
}

// stringsOf are all texts of at most n of these pieces.
func stringsOf(n int, pieces ...string) []string {
	var out []string
	for _, l := range listsOf(n, pieces) {
		out = append(out, strings.Join(l, ""))
	}
	return out
}

// listsOf are all lists of at most n of these.
func listsOf[T any](n int, of []T) [][]T {
	out := [][]T{nil}
	last := out
	for range n {
		var next [][]T
		for _, l := range last {
			for _, x := range of {
				next = append(next, append(slices.Clip(l), x))
			}
		}
		out = append(out, next...)
		last = next
	}
	return out
}

// blocksOf are the blocks of each of these kinds and Kids, plain ones and such as have one thing more.
func blocksOf(of []int, kids [][]api.Block) []api.Block {
	var out []api.Block
	for _, k := range of {
		for _, l := range kids {
			out = append(out,
				api.Block{Kind: k, Kids: l},
				api.Block{Kind: k, Level: 1, Kids: l},
				api.Block{Kind: k, Info: "a", Kids: l},
				api.Block{Kind: k, Lines: []string{"a"}, Kids: l},
				api.Block{Kind: k, Spans: []api.Span{text("a")}, Kids: l},
				api.Block{Kind: k, Level: 1, Spans: []api.Span{text("a")}, Kids: l},
				api.Block{Kind: k, Info: "a", Lines: []string{"a"}, Kids: l},
			)
		}
	}
	return out
}

// leaves are blocks that have no Kids, all of them right.
var leaves = []api.Block{para(text("a b")), para(codeSpan("a"), text("\nb")), heading(1), heading(6, text("a")), rule, fence(""), fence("go", "a", "", " b "), def("a b", "/c")}

// someBlocks are mixed blocks, most of them in normal form, at most so deep in one another.
func someBlocks(r *rand.Rand, deep int, inList bool) []api.Block {
	var l []api.Block
	for range r.IntN(4) {
		b := leaves[r.IntN(len(leaves))]
		if deep > 0 && r.IntN(2) == 0 {
			b = items(someBlocks(r, deep-1, true)...)
			if r.IntN(2) == 0 {
				b = quote(someBlocks(r, deep-1, false)...)
			}
		}
		if inList {
			b = item(b)
		}
		if r.IntN(60) == 0 {
			b = spoiled(r, b)
		}
		l = append(l, b)
	}
	return l
}

// spoiled is a block with one thing changed, so that most of them are right no more.
func spoiled(r *rand.Rand, b api.Block) api.Block {
	switch r.IntN(7) {
	case 0:
		b.Kind = r.IntN(10)
	case 1:
		b.Level = r.IntN(9) - 1
	case 2:
		b.Info = []string{"", "a", " a", "a`", "[", "\n", "\xff"}[r.IntN(7)]
	case 3:
		b.Lines = []([]string){nil, {"a"}, {"a b"}, {"a", "b"}, {"a\r"}, {""}}[r.IntN(6)]
	case 4:
		b.Spans = []([]api.Span){nil, {text("a")}, {text("a\nb")}, {text(" a")}, {emph()}}[r.IntN(5)]
	case 5:
		b.Kids = []([]api.Block){nil, {rule}, {item()}, {items()}, {items(item())}}[r.IntN(5)]
	case 6:
		b.Kids = append(slices.Clip(b.Kids), b.Kids...)
	}
	return b
}

// nestings are, from without to within, which containers lie one in the other, of just n of them: Items in Lists alone.
func nestings(n int) [][]int {
	switch n {
	case 0:
		return [][]int{nil}
	case 1:
		return [][]int{{api.Quote}}
	}
	var out [][]int
	for _, l := range nestings(n - 1) {
		out = append(out, append([]int{api.Quote}, l...))
	}
	for _, l := range nestings(n - 2) {
		out = append(out, append([]int{api.List, api.Item}, l...))
	}
	return out
}

// nested are blocks in containers of these kinds, one in the other.
func nested(within []int, in ...api.Block) []api.Block {
	for i := len(within) - 1; i >= 0; i-- {
		in = list(api.Block{Kind: within[i], Kids: in})
	}
	return in
}

// holdRight holds Right of a list against the chapter's words.
func holdRight(t *testing.T, l []api.Block) bool {
	t.Helper()
	want := rightByWords(l)
	if got := Right(l); got != want {
		t.Errorf("Right(%+v): %v", l, got)
	}
	return want
}
