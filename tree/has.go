package tree

import "emendation/api"

// has is what a block has: all but its lists, and of these how long they are, so that two can be compared at once.
type has struct {
	kind, level        int
	info               string
	lines, spans, kids int
}

// of is what b has.
func of(b api.Block) has {
	return has{
		kind: b.Kind, level: b.Level, info: b.Info,
		lines: len(b.Lines), spans: len(b.Spans), kids: len(b.Kids),
	}
}

// used is of what a block has that which its kind uses.
func (h has) used() has {
	switch h.kind {
	case api.Para:
		return has{kind: h.kind, spans: h.spans}
	case api.Heading:
		return has{kind: h.kind, level: h.level, spans: h.spans}
	case api.Fence, api.Def:
		return has{kind: h.kind, info: h.info, lines: h.lines}
	case api.Quote, api.List, api.Item:
		return has{kind: h.kind, kids: h.kids}
	}
	return has{kind: h.kind}
}
