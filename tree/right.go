package tree

import (
	"strings"

	"emendation/api"
	"emendation/lines"
	"emendation/span"
	"emendation/utf"
)

// allRight tells whether blocks that stand anywhere but in a List are in normal form, with room for so many containers one in the other. (It goes no deeper than there is room.)
func allRight(l []api.Block, room int) bool {
	for i, b := range l {
		if b.Kind == api.Item || i > 0 && b.Kind == api.List && l[i-1].Kind == api.List {
			return false
		}
		if !oneRight(b, room) {
			return false
		}
	}
	return true
}

// itemsRight tells whether blocks may be all that a List has, with room as above.
func itemsRight(l []api.Block, room int) bool {
	for _, b := range l {
		if b.Kind != api.Item || !oneRight(b, room) {
			return false
		}
	}
	return len(l) > 0
}

// oneRight tells whether a block is right, whatever it stands in or beside, with room as above.
func oneRight(b api.Block, room int) bool {
	if h := of(b); h != h.used() {
		return false
	}
	switch b.Kind {
	case api.Para:
		return len(b.Spans) > 0 && span.Right(b.Spans)
	case api.Heading:
		return headingRight(b.Level, b.Spans)
	case api.Rule:
		return true
	case api.Fence:
		return isInfo(b.Info) && codeRight(b.Lines)
	case api.Quote, api.Item:
		return room > 0 && allRight(b.Kids, room-1)
	case api.List:
		return room > 0 && itemsRight(b.Kids, room-1)
	case api.Def:
		return Label(b.Info) && len(b.Lines) == 1 && span.Dest(b.Lines[0])
	}
	return false
}

// headingRight tells whether a Heading may have this level and these spans.
func headingRight(level int, l []api.Span) bool {
	return level >= 1 && level <= api.MaxLevel && span.Right(l) && span.Lines(l) == 1
}

// codeRight tells whether a Fence may have these lines.
func codeRight(l []string) bool {
	for _, s := range l {
		if !isLine(s) {
			return false
		}
	}
	return true
}

// isInfo tells whether s is a code's info.
func isInfo(s string) bool {
	return isLine(s) && tight(s) && strings.IndexByte(s, '`') < 0
}

// Label tells whether a text can be a definition's label.
func Label(s string) bool {
	return s != "" && isLine(s) && tight(s) && !strings.ContainsAny(s, `[]\`)
}

// isLine tells whether s is a text without line ends.
func isLine(s string) bool {
	return !strings.ContainsAny(s, "\n\r") && utf.Check([]byte(s)) == api.OK
}

// tight tells whether s has no Space at its ends.
func tight(s string) bool { return lines.Trim(s) == s }
