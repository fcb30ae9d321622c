package spanin

import (
	"slices"
	"strings"

	"emendation/span"
	"emendation/utf"
)

// The kinds of pieces.
const (
	plain = iota // bytes that are text
	coded        // what a Code has
	star
	open
	shut
	tail // where a link can go to, and the ( and ) about it
)

// piece is a part of a text, and the places of the next star and the next shut behind it (as many as there are pieces: there is none).
type piece struct {
	kind       int
	s          string
	star, shut int
}

// cutter cuts a line into pieces.
type cutter struct {
	line string
	runs []run
	out  []piece
}

// cut is a text as pieces. (What is escaped, what is a Code and what can be a link's tail is the same in an emphasis, in a link and in neither, and none of them goes on behind an LF: so pieces are told ahead of reading, line by line, and nothing is looked for twice.)
func cut(s string) []piece {
	var c cutter
	for line := range strings.Lines(s) {
		c.line, c.runs = line, runsOf(line)
		for at := 0; at < len(line); {
			at = c.next(at)
		}
	}
	lookAhead(c.out)
	return c.out
}

// lookAhead tells each piece which star and which shut are next.
func lookAhead(l []piece) {
	nextStar, nextShut := len(l), len(l)
	for i := range slices.Backward(l) {
		l[i].star, l[i].shut = nextStar, nextShut
		switch l[i].kind {
		case star:
			nextStar = i
		case shut:
			nextShut = i
		}
	}
}

// next cuts what begins at a place, and tells the place behind it.
func (c *cutter) next(at int) int {
	switch c.line[at] {
	case '\\':
		return c.escape(at)
	case '`':
		return c.ticks(at)
	case '*':
		return c.put(star, at, at+1)
	case '[':
		return c.put(open, at, at+1)
	case ']':
		return c.bracket(at)
	}
	n := strings.IndexAny(c.line[at:], "\\`*[]")
	if n < 0 {
		n = len(c.line) - at
	}
	return c.put(plain, at, at+n)
}

// put is a piece from a place up to another one, which it tells.
func (c *cutter) put(kind, from, to int) int {
	c.out = append(c.out, piece{kind: kind, s: c.line[from:to]})
	return to
}

// escape cuts at a backslash.
func (c *cutter) escape(at int) int {
	if at+1 < len(c.line) && utf.Escapes(c.line[at+1]) {
		return c.put(plain, at+1, at+2)
	}
	return c.put(plain, at, at+1)
}

// ticks cuts at backticks.
func (c *cutter) ticks(at int) int {
	n := Ticks(c.line, at)
	end := closer(c.runs, run{n, at + n})
	if end < 0 {
		return c.put(plain, at, at+n)
	}
	c.out = append(c.out, piece{kind: coded, s: inner(c.line[at+n : end])})
	return end + n
}

// inner is what a Code has of what lies between its backticks.
func inner(s string) string {
	if strings.HasPrefix(s, " ") && strings.HasSuffix(s, " ") && strings.Trim(s, " ") != "" {
		return s[1 : len(s)-1]
	}
	return s
}

// bracket cuts at a ], and what can be a link's tail behind it.
func (c *cutter) bracket(at int) int {
	at = c.put(shut, at, at+1)
	if n := tailLength(c.line[at:]); n > 0 {
		return c.put(tail, at, at+n)
	}
	return at
}

// tailLength is how many bytes of s, from its beginning on, are a (, a place that a link can go to, and a ); 0: they aren't there.
func tailLength(s string) int {
	if !strings.HasPrefix(s, "(") {
		return 0
	}
	end := 1
	for end < len(s) && span.Dest(s[end:end+1]) {
		end++
	}
	if span.Dest(s[1:end]) && strings.HasPrefix(s[end:], ")") {
		return end + 1
	}
	return 0
}
