package defs

import (
	"slices"
	"strings"

	"emendation/api"
	"emendation/utf"
)

// place is where a label goes to. (One that isn't there is zero, as a map answers it, so that two can be compared at once.)
type place struct {
	there bool
	to    string
}

// places are where labels go to.
type places map[string]place

// gather is the places of a list of entries.
func gather(l []Entry) places {
	known := places{}
	for _, e := range l {
		known.put(e.Label, e.To)
	}
	return known
}

// put notes where a label goes to, if it isn't known yet: the first one counts.
func (known places) put(label, to string) {
	if !known[label].there {
		known[label] = place{there: true, to: to}
	}
}

// readAll notes what blocks define. (Kids are gone through whatever has them: blocks that aren't in normal form are asked too.)
func (known places) readAll(l []api.Block) {
	for _, b := range l {
		if b.Kind == api.Def {
			known.put(utf.Fold(b.Info), target(b.Lines))
		}
		known.readAll(b.Kids)
	}
}

// target is where a Def of these lines goes to.
func target(lines []string) string {
	if len(lines) == 0 {
		return ""
	}
	return lines[0]
}

// entries are the places as definitions are listed.
func (known places) entries() []Entry {
	out := make([]Entry, 0, len(known))
	for label, p := range known {
		out = append(out, Entry{label, p.to})
	}
	slices.SortFunc(out, func(a, b Entry) int { return strings.Compare(a.Label, b.Label) })
	return out
}

// labels are all labels of some places, rising, each once.
func labels(of ...places) []string {
	var out []string
	for _, known := range of {
		for label := range known {
			out = append(out, label)
		}
	}
	slices.Sort(out)
	return slices.Compact(out)
}
