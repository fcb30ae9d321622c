package number

import (
	"slices"

	"emendation/api"
	"emendation/span"
	"emendation/token"
)

// parts is what a block is made of, as texts: two blocks of a kind are as alike as these are.
func parts(b api.Block) []string {
	switch b.Kind {
	case api.Para, api.Heading:
		return token.Cut(span.Plain(b.Spans))
	case api.Fence:
		return b.Lines
	case api.Quote, api.List, api.Item:
		return keys(b.Kids)
	case api.Def:
		return slices.Concat([]string{b.Info}, b.Lines)
	}
	return nil
}
