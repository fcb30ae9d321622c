package marks

import (
	"slices"
	"strings"

	"emendation/api"
	"emendation/lines"
)

// heads are the bytes that markers are made of, in the order in which these come in a clash.
const heads = "<|=>"

// noHead is the place of a byte that no marker is made of.
const noHead = -1

// sides is how many there are, by numbers from 1 on; outside is where lines of none of them stand.
const (
	outside = 0
	sides   = 3
)

// held is a marker's size within its limits.
func held(size int) int { return min(max(size, 1), api.MaxMark) }

// headOf is the place in heads of the byte that a line begins with.
func headOf(line string) int {
	if line == "" {
		return noHead
	}
	return strings.IndexByte(heads, line[0])
}

// markerOf is the place in heads of the byte that a line is a marker of, if it is one of that size.
func markerOf(line string, size int) int {
	at := headOf(line)
	if at == noHead || lines.Run(line, line[0]) != size {
		return noHead
	}
	if len(line) > size && line[size] != ' ' {
		return noHead
	}
	return at
}

// markers are a clash's lines that are of no side.
type markers struct{ ours, base, middle, theirs string }

// markersOf are the markers of a size, with what the sides are called.
func markersOf(size int, s Sides) markers {
	size = held(size)
	return markers{
		ours:   marker(heads[0:1], size, s.Ours),
		base:   marker(heads[1:2], size, s.Base),
		middle: marker(heads[2:3], size, ""),
		theirs: marker(heads[3:4], size, s.Theirs),
	}
}

// marker is a line of so many heads, and a name.
func marker(head string, size int, name string) string {
	line := strings.Repeat(head, size)
	if name == "" {
		return line
	}
	return line + " " + name
}

// around is the sides' lines between the markers.
func (m markers) around(ours, base, theirs []string) []string {
	return slices.Concat(
		[]string{m.ours}, ours,
		[]string{m.base}, base,
		[]string{m.middle}, theirs,
		[]string{m.theirs},
	)
}
