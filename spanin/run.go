package spanin

import (
	"cmp"
	"slices"
)

// run is backticks side by side: how many, and from where on.
type run struct{ n, at int }

// byLength orders runs by how long they are, those of one length by where they stand.
func byLength(a, b run) int {
	return cmp.Or(cmp.Compare(a.n, b.n), cmp.Compare(a.at, b.at))
}

// runsOf are all runs of backticks in a line, by their lengths.
func runsOf(line string) []run {
	var out []run
	for at := 0; at < len(line); {
		n := Ticks(line, at)
		if n > 0 {
			out = append(out, run{n, at})
		}
		at += max(n, 1)
	}
	slices.SortFunc(out, byLength)
	return out
}

// closer is where the first run stands that is just as long as r, and not ahead of it; -1: there is none. (It is looked for in order: a line may have many backticks that none closes.)
func closer(runs []run, r run) int {
	i, _ := slices.BinarySearchFunc(runs, r, byLength)
	if i == len(runs) || runs[i].n != r.n {
		return -1
	}
	return runs[i].at
}
