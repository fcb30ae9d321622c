package write

import (
	"strings"

	"emendation/api"
	"emendation/lines"
	"emendation/spanout"
)

// page is what is written so far.
type page struct{ lines []string }

// put puts a line behind those that are there.
func (p *page) put(s string) { p.lines = append(p.lines, s) }

// blocks writes blocks in normal form, with an empty line between each two of them. (It goes no deeper than normal form does.)
func (p *page) blocks(l []api.Block) {
	for i, b := range l {
		if i > 0 {
			p.put("")
		}
		p.block(b)
	}
}

// block writes a block.
func (p *page) block(b api.Block) {
	switch b.Kind {
	case api.Para:
		p.para(b.Spans)
	case api.Heading:
		p.heading(b.Level, b.Spans)
	case api.Rule:
		p.put("---")
	case api.Fence:
		p.fence(b.Info, b.Lines)
	case api.Quote:
		p.quote(b.Kids)
	case api.List:
		for _, item := range b.Kids {
			p.item(item.Kids)
		}
	case api.Def:
		p.put("[" + b.Info + "]: " + b.Lines[0])
	}
}

// para writes what a Para has.
func (p *page) para(l []api.Span) {
	all, _ := lines.Split(written(l))
	for _, s := range all {
		p.put(s)
	}
}

// heading writes what a Heading has.
func (p *page) heading(level int, l []api.Span) {
	s := strings.Repeat("#", level)
	if len(l) > 0 {
		s += " " + written(l)
	}
	p.put(s)
}

// fence writes what a Fence has, between lines that none of its own can be taken for.
func (p *page) fence(info string, l []string) {
	ticks := strings.Repeat("`", Ticks(l))
	p.put(ticks + info)
	for _, s := range l {
		p.put(s)
	}
	p.put(ticks)
}

// quote writes what a Quote has, each line behind a mark.
func (p *page) quote(kids []api.Block) {
	for _, s := range inside(kids) {
		p.put(behind("> ", ">", s))
	}
}

// item writes what an Item has, the first line behind a mark, the others as far in as that one.
func (p *page) item(kids []api.Block) {
	for i, s := range inside(kids) {
		if i == 0 {
			p.put(behind("- ", "-", s))
		} else {
			p.put(behind("  ", "", s))
		}
	}
}

// inside is the lines that stand in a container: at least one, as its mark must stand ahead of one.
func inside(kids []api.Block) []string {
	var p page
	p.blocks(kids)
	if len(p.lines) == 0 {
		p.put("")
	}
	return p.lines
}

// behind is a line with a mark ahead of it, or, if it is empty, with the bare one alone: so that no space stands at a line's end.
func behind(mark, bare, s string) string {
	if s == "" {
		return bare
	}
	return mark + s
}

// written is spans in normal form as they are written.
func written(l []api.Span) string {
	s, _ := spanout.Write(l)
	return s
}
