package kind

import (
	"strings"

	"emendation/api"
	"emendation/lines"
	"emendation/span"
	"emendation/tree"
)

// least is how many bytes a rule, and a fence's backticks, have at least.
const least = 3

// isHeading tells whether a line begins a heading.
func isHeading(s string) bool {
	n := lines.Run(s, '#')
	return n >= 1 && n <= api.MaxLevel && endsOrSpace(s[n:])
}

// isRule tells whether a line is a rule.
func isRule(s string) bool {
	return len(s) >= least && lines.Run(s, '-') == len(s)
}

// isFence tells whether a line opens a fence.
func isFence(s string) bool {
	n := lines.Run(s, '`')
	return n >= least && strings.IndexByte(s[n:], '`') < 0
}

// isQuote tells whether a line is one of a quote.
func isQuote(s string) bool { return strings.HasPrefix(s, ">") }

// isItem tells whether a line begins an item.
func isItem(s string) bool {
	rest, ok := strings.CutPrefix(s, "-")
	return ok && endsOrSpace(rest)
}

// isDef tells whether a line is a definition.
func isDef(s string) bool {
	label, to := halves(s)
	return tree.Label(label) && span.Dest(to)
}

// halves are the label and the place of a line as a definition has them, right or not; of one that has no marks for both, empty. (A label has no ], so that it ends at the first one.)
func halves(s string) (string, string) {
	inner, ok := strings.CutPrefix(s, "[")
	if !ok {
		return "", ""
	}
	label, rest, _ := strings.Cut(inner, "]")
	to, ok := strings.CutPrefix(rest, ": ")
	if !ok {
		return "", ""
	}
	return label, to
}

// endsOrSpace tells whether a line ends behind its mark, or has a space there.
func endsOrSpace(rest string) bool {
	return rest == "" || rest[0] == ' '
}

// runAndRest is how many bytes c a line begins with, and what stands behind them, without gaps at its ends.
func runAndRest(s string, c byte) (int, string) {
	n := lines.Run(s, c)
	return n, lines.Trim(s[n:])
}

// unmarked is a line without its mark of one byte, and without a space that stands next.
func unmarked(s string) string {
	return strings.TrimPrefix(s[1:], " ")
}
