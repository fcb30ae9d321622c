package number

import (
	"fmt"
	"strconv"
	"strings"
	"testing"

	"emendation/api"
	"emendation/token"
	"emendation/tree"
)

// textByWords is a text as it stands in a key, in the chapter's words.
func textByWords(s string) string { return fmt.Sprintf("%d:%s", len(s), s) }

// spansByWords is how many spans there are, and each one's key, likewise.
func spansByWords(l []api.Span) string {
	all := fmt.Sprintf("%d;", len(l))
	for _, s := range l {
		all += fmt.Sprintf("%d;%s%s", s.Kind, textByWords(s.S), spansByWords(s.Kids))
	}
	return all
}

// keyByWords is a block's key, likewise.
func keyByWords(b api.Block) string {
	all := fmt.Sprintf("%d;%d;%s%d;", b.Kind, b.Level, textByWords(b.Info), len(b.Lines))
	for _, s := range b.Lines {
		all += textByWords(s)
	}
	all += spansByWords(b.Spans) + fmt.Sprintf("%d;", len(b.Kids))
	for _, kid := range b.Kids {
		all += keyByWords(kid)
	}
	return all
}

// keyReader reads a key: what it has been told of it stands ahead, what is left behind.
type keyReader struct {
	t    *testing.T
	left string
}

// number reads a number, up to a mark.
func (r *keyReader) number(mark string) int {
	r.t.Helper()
	digits, left, _ := strings.Cut(r.left, mark)
	n, err := strconv.Atoi(digits)
	if err != nil {
		r.t.Fatalf("%q has no number ahead", r.left)
	}
	r.left = left
	return n
}

// text reads a text.
func (r *keyReader) text() string {
	r.t.Helper()
	n := r.number(":")
	s := r.left[:n]
	r.left = r.left[n:]
	return s
}

// spans reads spans.
func (r *keyReader) spans() []api.Span {
	r.t.Helper()
	out := make([]api.Span, r.number(";"))
	for i := range out {
		out[i] = api.Span{Kind: r.number(";"), S: r.text(), Kids: r.spans()}
	}
	return out
}

// block reads a block.
func (r *keyReader) block() api.Block {
	r.t.Helper()
	b := api.Block{Kind: r.number(";"), Level: r.number(";"), Info: r.text(), Lines: make([]string, r.number(";"))}
	for i := range b.Lines {
		b.Lines[i] = r.text()
	}
	b.Spans = r.spans()
	b.Kids = make([]api.Block, r.number(";"))
	for i := range b.Kids {
		b.Kids[i] = r.block()
	}
	return b
}

// holdKey holds a block's key against the chapter's words, and that what is read of it is the same block, so that no other one has it.
func holdKey(t *testing.T, b api.Block) string {
	t.Helper()
	key := Key(b)
	if want := keyByWords(b); key != want {
		t.Fatalf("Key(%+v): %q, not %q", b, key, want)
	}
	r := keyReader{t, key}
	if read := r.block(); r.left != "" || !same(read, b) {
		t.Fatalf("%q is read as %+v, and %q, not as %+v", key, read, r.left, b)
	}
	return key
}

// same tells whether two blocks are the same.
func same(a, b api.Block) bool { return tree.Same(blocks(a), blocks(b)) }

// idsByWords are, of each list, the numbers of its blocks, in the chapters' words: how many unlike keys stand ahead.
func idsByWords(l [][]api.Block) [][]int {
	unlike := map[string]int{}
	for _, some := range l {
		for _, b := range some {
			unlike[keyByWords(b)] = 0
		}
	}
	for key := range unlike {
		for other := range unlike {
			if other < key {
				unlike[key]++
			}
		}
	}
	out := make([][]int, len(l))
	for i, some := range l {
		for _, b := range some {
			out[i] = append(out[i], unlike[keyByWords(b)])
		}
	}
	return out
}

// readByWords is what spans read, in the chapter's words.
func readByWords(l []api.Span) string {
	all := ""
	for _, s := range l {
		all += map[int]string{api.Text: s.S, api.Code: s.S}[s.Kind] + readByWords(s.Kids)
	}
	return all
}

// partsByWords are the parts of a block, likewise.
func partsByWords(b api.Block) []string {
	words := token.Cut(readByWords(b.Spans))
	var kids []string
	for _, kid := range b.Kids {
		kids = append(kids, keyByWords(kid))
	}
	return map[int][]string{
		api.Para:    words,
		api.Heading: words,
		api.Fence:   b.Lines,
		api.Quote:   kids,
		api.List:    kids,
		api.Item:    kids,
		api.Def:     append([]string{b.Info}, b.Lines...),
	}[b.Kind]
}

// diceByWords is how alike two lists of texts are, by a whole table.
func diceByWords(a, b []string) int {
	if len(a)+len(b) == 0 {
		return 1000
	}
	most := make([][]int, len(a)+1)
	for i := range most {
		most[i] = make([]int, len(b)+1)
	}
	for i := len(a) - 1; i >= 0; i-- {
		for j := len(b) - 1; j >= 0; j-- {
			most[i][j] = max(most[i+1][j], most[i][j+1])
			if a[i] == b[j] {
				most[i][j] = most[i+1][j+1] + 1
			}
		}
	}
	return most[0][0] * 2 * 1000 / (len(a) + len(b))
}

// alikeByWords is how alike two blocks are, likewise.
func alikeByWords(a, b api.Block) int {
	switch {
	case keyByWords(a) == keyByWords(b):
		return 1000
	case a.Kind != b.Kind:
		return 0
	}
	return min(diceByWords(partsByWords(a), partsByWords(b)), 999)
}

// holdAlike holds how alike two blocks are against the chapter's words, and that it is 1000 just if they are the same, and the same the other way round.
func holdAlike(t *testing.T, a, b api.Block) {
	t.Helper()
	n := Alike(a, b)
	if want := alikeByWords(a, b); n != want {
		t.Fatalf("Alike(%+v, %+v): %d, not %d", a, b, n, want)
	}
	if (n == 1000) != same(a, b) || n < 0 || n > 1000 || Alike(b, a) != n {
		t.Fatalf("Alike(%+v, %+v): %d, and %d the other way round", a, b, n, Alike(b, a))
	}
}
