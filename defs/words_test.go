package defs

import (
	"slices"
	"strings"
	"testing"

	"emendation/api"
)

// foldByWords is a label folded, in layer 1's words.
func foldByWords(s string) string {
	words := strings.FieldsFunc(s, func(c rune) bool { return strings.ContainsRune("\t\n\r ", c) })
	out := []byte(strings.Join(words, " "))
	for i, c := range out {
		if at := strings.IndexByte("ABCDEFGHIJKLMNOPQRSTUVWXYZ", c); at >= 0 {
			out[i] = "abcdefghijklmnopqrstuvwxyz"[at]
		}
	}
	return string(out)
}

// defsByWords are the Defs of some blocks, in order, those in others, too.
func defsByWords(l []api.Block) []api.Block {
	var out []api.Block
	for _, b := range l {
		if b.Kind == api.Def {
			out = append(out, b)
		}
		out = append(out, defsByWords(b.Kids)...)
	}
	return out
}

// ofByWords is what a document defines, in the chapter's words.
func ofByWords(l []api.Block) []Entry {
	var out []Entry
	for _, d := range defsByWords(l) {
		e := Entry{Label: foldByWords(d.Info)}
		for _, s := range slices.Backward(d.Lines) {
			e.To = s
		}
		if !slices.Contains(labelsByWords(out), e.Label) {
			out = append(out, e)
		}
	}
	slices.SortFunc(out, func(a, b Entry) int { return strings.Compare(a.Label, b.Label) })
	return out
}

// labelsByWords are the labels of some entries, as they stand there, rising, each once.
func labelsByWords(lists ...[]Entry) []string {
	var out []string
	for _, e := range slices.Concat(lists...) {
		out = append(out, e.Label)
	}
	slices.Sort(out)
	return slices.Compact(out)
}

// firstByWords is where the first entry of a label goes to: a list of it alone, or none.
func firstByWords(l []Entry, label string) []string {
	for _, e := range l {
		if e.Label == label {
			return []string{e.To}
		}
	}
	return nil
}

// mergeByWords is what three lists of entries define together, and what clashes, likewise.
func mergeByWords(base, ours, theirs []Entry) ([]Entry, []string) {
	var out []Entry
	var clashes []string
	for _, label := range labelsByWords(base, ours, theirs) {
		b, o, t := firstByWords(base, label), firstByWords(ours, label), firstByWords(theirs, label)
		var comes []string
		switch {
		case slices.Equal(t, b):
			comes = o
		case slices.Equal(o, b), slices.Equal(t, o):
			comes = t
		default:
			clashes = append(clashes, label)
		}
		for _, to := range comes {
			out = append(out, Entry{label, to})
		}
	}
	return out, clashes
}

// holdOf holds what a document defines against the chapter's words, and that each label is found.
func holdOf(t *testing.T, l []api.Block) []Entry {
	t.Helper()
	got, want := Of(l), ofByWords(l)
	if !slices.Equal(got, want) {
		t.Fatalf("Of(%+v): %q, not %q", l, got, want)
	}
	for _, d := range defsByWords(l) {
		holdFind(t, got, d.Info)
		if _, ok := Find(got, d.Info); !ok {
			t.Fatalf("%q has no %q", got, d.Info)
		}
	}
	return got
}

// holdFind holds where a label goes to against the chapter's words.
func holdFind(t *testing.T, l []Entry, label string) {
	t.Helper()
	to, ok := Find(l, label)
	want := firstByWords(l, foldByWords(label))
	if ok != (len(want) == 1) || ok && to != want[0] || !ok && to != "" {
		t.Fatalf("Find(%q, %q): %q, %v, not %q", l, label, to, ok, want)
	}
}

// holdMerge holds what three lists define together against the chapter's words, and that it is the same with the sides exchanged.
func holdMerge(t *testing.T, base, ours, theirs []Entry) ([]Entry, []string) {
	t.Helper()
	got, clashes := Merge(base, ours, theirs)
	want, wantClashes := mergeByWords(base, ours, theirs)
	if !slices.Equal(got, want) || !slices.Equal(clashes, wantClashes) {
		t.Fatalf("Merge(%q, %q, %q): %q, %q, not %q, %q", base, ours, theirs, got, clashes, want, wantClashes)
	}
	other, otherClashes := Merge(base, theirs, ours)
	if !slices.Equal(other, got) || !slices.Equal(otherClashes, clashes) {
		t.Fatalf("of %q, %q, %q with the sides exchanged: %q, %q, not %q, %q", base, ours, theirs, other, otherClashes, got, clashes)
	}
	return got, clashes
}
