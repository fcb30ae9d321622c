package parse

import (
	"emendation/kind"
	"emendation/lines"
)

// Spread is, of lines, where each block at the top begins, and where it ends.
func Spread(l []string) [][2]int {
	var out [][2]int
	at := 0
scan:
	for at < len(l) {
		from := at
		switch k := kind.Of(l[at]); k {
		case kind.Blank:
			at++
			continue scan // no block: nothing is told of it
		case kind.Fence:
			at = behindFence(l, from)
		case kind.Quote, kind.Plain:
			at = behindRun(l, from, k)
		case kind.Item:
			at = behindList(l, from)
		default:
			at++
		}
		out = append(out, [2]int{from, at})
	}
	return out
}

// items is where each Item begins, and where it ends, of the List whose first line is at a place.
func items(l []string, at int) [][2]int {
	var out [][2]int
scan:
	for at < len(l) {
		switch kind.Of(l[at]) {
		case kind.Blank:
			at++
		case kind.Item:
			from := at
			at = behindItem(l, from)
			out = append(out, [2]int{from, at})
		default:
			break scan
		}
	}
	return out
}

// behindFence is the place behind the Fence that is opened at a place.
func behindFence(l []string, at int) int {
	n, _ := kind.Open(l[at])
	for i := at + 1; i < len(l); i++ {
		if kind.Closes(l[i], n) {
			return i + 1
		}
	}
	return len(l)
}

// behindRun is the place behind the lines of a kind, side by side, of which the first is at a place.
func behindRun(l []string, at, k int) int {
	for at < len(l) && kind.Of(l[at]) == k {
		at++
	}
	return at
}

// behindList is the place behind the List whose first line is at a place.
func behindList(l []string, at int) int {
	all := items(l, at)
	return all[len(all)-1][1]
}

// behindItem is the place behind the Item whose first line is at a place: Blank lines at its end aren't of it, but its first line always is.
func behindItem(l []string, at int) int {
	behind := at + 1
	for i := behind; i < len(l); i++ {
		inner, ok := kind.Inner(l[i])
		if !ok {
			break
		}
		if !lines.Blank(inner) {
			behind = i + 1
		}
	}
	return behind
}
