package html

import (
	"strconv"
	"strings"

	"emendation/api"
)

// page is what is shown so far.
type page struct{ out strings.Builder }

// put puts marks, as they stand, behind what is there.
func (p *page) put(s string) { p.out.WriteString(s) }

// text puts a text behind what is there, escaped.
func (p *page) text(s string) {
	from := 0
	for i := range len(s) {
		if name := nameOf(s[i]); name != "" {
			p.put(s[from:i])
			p.put(name)
			from = i + 1
		}
	}
	p.put(s[from:])
}

// nameOf is what stands in a byte's place, or empty, if the byte stands as it is.
func nameOf(b byte) string {
	switch b {
	case '&':
		return "&amp;"
	case '<':
		return "&lt;"
	case '>':
		return "&gt;"
	case '"':
		return "&quot;"
	}
	return ""
}

// blocks shows blocks.
func (p *page) blocks(l []api.Block) {
	for _, b := range l {
		p.block(b)
	}
}

// block shows a block, and an LF behind it, if there is anything to be shown.
func (p *page) block(b api.Block) {
	switch b.Kind {
	case api.Para:
		p.line("p", b.Spans)
	case api.Heading:
		p.line("h"+digit(b.Level), b.Spans)
	case api.Rule:
		p.put("<hr />\n")
	case api.Fence:
		p.fence(b.Info, b.Lines)
	case api.Quote:
		p.container("blockquote", b.Kids)
	case api.List:
		p.container("ul", b.Kids)
	case api.Item:
		p.container("li", b.Kids)
	}
}

// line shows spans between marks of a name.
func (p *page) line(name string, l []api.Span) {
	p.put("<" + name + ">")
	p.spans(l)
	p.put("</" + name + ">\n")
}

// container shows blocks between marks of a name.
func (p *page) container(name string, kids []api.Block) {
	p.put("<" + name + ">\n")
	p.blocks(kids)
	p.put("</" + name + ">\n")
}

// fence shows what a Fence has. (Its language is what its info says first.)
func (p *page) fence(info string, l []string) {
	p.put("<pre><code")
	if info != "" {
		language, _, _ := strings.Cut(info, " ")
		p.put(` class="language-`)
		p.text(language)
		p.put(`"`)
	}
	p.put(">")
	for _, s := range l {
		p.text(s)
		p.put("\n")
	}
	p.put("</code></pre>\n")
}

// digit is a Heading's level, or 0, if it isn't one digit from 1 on.
func digit(level int) string {
	if level < 1 || level > 9 {
		return "0"
	}
	return strconv.Itoa(level)
}
