package span

import (
	"strings"

	"emendation/api"
	"emendation/utf"
)

// place is what spans stand in, however deep.
type place struct{ emph, link bool }

// allRight tells whether spans at a place are in normal form, but for the ends. (It goes no deeper than an Emph in a Link or a Link in an Emph: what would be deeper isn't right.)
func allRight(l []api.Span, in place) bool {
	for i, s := range l {
		if i > 0 && clings(s.Kind) && l[i-1].Kind == s.Kind {
			return false
		}
		if !oneRight(s, in) {
			return false
		}
	}
	return true
}

// clings tells whether two spans of a kind side by side would be one.
func clings(kind int) bool { return kind == api.Text || kind == api.Code }

// oneRight tells whether a span is right where it stands.
func oneRight(s api.Span, in place) bool {
	switch s.Kind {
	case api.Text:
		return len(s.Kids) == 0 && textRight(s.S)
	case api.Code:
		return len(s.Kids) == 0 && codeRight(s.S)
	case api.Emph:
		return !in.emph && s.S == "" && kidsRight(s.Kids, place{emph: true, link: in.link})
	case api.Link:
		return !in.link && Dest(s.S) && kidsRight(s.Kids, place{emph: in.emph, link: true})
	}
	return false
}

// kidsRight tells whether spans may be all that an Emph or a Link has.
func kidsRight(l []api.Span, in place) bool {
	return len(l) > 0 && allRight(l, in)
}

// textRight tells whether a Text may have s. (A line between two others that has Spaces alone either is empty, so that two LF are side by side, or has a Space behind an LF: no line need be looked at whole.)
func textRight(s string) bool {
	if s == "" || !isText(s) || strings.IndexByte(s, '\r') >= 0 {
		return false
	}
	for i := 1; i < len(s); i++ {
		if s[i-1] == '\n' && gap(s[i]) || s[i] == '\n' && gap(s[i-1]) {
			return false
		}
	}
	return true
}

// codeRight tells whether a Code may have s.
func codeRight(s string) bool {
	return s != "" && isText(s) && !strings.ContainsAny(s, "\r\n")
}

// endsRight tells whether neither end of all spans is a Text that would be cut there.
func endsRight(l []api.Span) bool {
	if len(l) == 0 {
		return true
	}
	first, last := l[0], l[len(l)-1]
	if first.Kind == api.Text && first.S != "" && gap(first.S[0]) {
		return false
	}
	return last.Kind != api.Text || last.S == "" || !gap(last.S[len(last.S)-1])
}

// gap tells whether a byte is a Space or an LF.
func gap(b byte) bool {
	return b == '\n' || utf.Class(int(b)) == utf.Space
}

// isText tells whether s is a text.
func isText(s string) bool { return utf.Check([]byte(s)) == api.OK }

// Dest tells whether a link can go there.
func Dest(s string) bool {
	if s == "" || !isText(s) {
		return false
	}
	for i := range len(s) {
		if !inDest(s[i]) {
			return false
		}
	}
	return true
}

// inDest tells whether a byte may stand in where a link goes to.
func inDest(b byte) bool {
	switch {
	case b >= 'a' && b <= 'z', b >= 'A' && b <= 'Z', b >= '0' && b <= '9':
		return true
	}
	return strings.IndexByte("./_-#?&:%", b) >= 0
}
