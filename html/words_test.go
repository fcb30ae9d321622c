package html

import (
	"encoding/xml"
	"io"
	"slices"
	"strings"
	"testing"

	"emendation/api"
	"emendation/span"
	"emendation/tree"
)

// signs puts what stands for each of four bytes in its place, in one go, so that no & is taken twice.
var signs = strings.NewReplacer("&", "&amp;", "<", "&lt;", ">", "&gt;", `"`, "&quot;")

// spansByWords is spans as they are shown, in the chapter's words.
func spansByWords(l []api.Span) string {
	all := ""
	for _, s := range l {
		own, kids := signs.Replace(s.S), spansByWords(s.Kids)
		all += map[int]string{
			api.Text: own,
			api.Code: "<code>" + own + "</code>",
			api.Emph: "<em>" + kids + "</em>",
			api.Link: `<a href="` + own + `">` + kids + "</a>",
		}[s.Kind]
	}
	return all
}

// blocksByWords is blocks as they are shown, likewise.
func blocksByWords(l []api.Block) string {
	all := ""
	for _, b := range l {
		spans, kids := spansByWords(b.Spans), blocksByWords(b.Kids)
		level, ok := map[int]string{1: "1", 2: "2", 3: "3", 4: "4", 5: "5", 6: "6", 7: "7", 8: "8", 9: "9"}[b.Level]
		if !ok {
			level = "0"
		}
		one, ok := map[int]string{
			api.Para:    "<p>" + spans + "</p>",
			api.Heading: "<h" + level + ">" + spans + "</h" + level + ">",
			api.Rule:    "<hr />",
			api.Fence:   fenceByWords(b.Info, b.Lines),
			api.Quote:   "<blockquote>\n" + kids + "</blockquote>",
			api.List:    "<ul>\n" + kids + "</ul>",
			api.Item:    "<li>\n" + kids + "</li>",
		}[b.Kind]
		if ok {
			all += one + "\n"
		}
	}
	return all
}

// fenceByWords is a Fence as it is shown, without the LF behind it, likewise.
func fenceByWords(info string, lines []string) string {
	all := "<pre><code>"
	if info != "" {
		all = `<pre><code class="language-` + signs.Replace(strings.SplitN(info, " ", 2)[0]) + `">`
	}
	for _, s := range lines {
		all += signs.Replace(s) + "\n"
	}
	return all + "</code></pre>"
}

// holdSpans holds spans, be they in normal form or not, against the chapter's words.
func holdSpans(t *testing.T, l []api.Span) string {
	t.Helper()
	got := Spans(l)
	if want := spansByWords(l); got != want {
		t.Fatalf("Spans(%+v): %q, not %q", l, got, want)
	}
	return got
}

// holdBlocks holds blocks likewise.
func holdBlocks(t *testing.T, l []api.Block) string {
	t.Helper()
	got := Blocks(l)
	if want := blocksByWords(l); got != want {
		t.Fatalf("Blocks(%+v): %q, not %q", l, got, want)
	}
	return got
}

// marksOf counts how many marks what is shown of spans, and of blocks, has: for each < there is a >.
func marksOf(spans []api.Span, blocks []api.Block) int {
	n := 0
	for _, s := range spans {
		switch s.Kind {
		case api.Code:
			n += 2
		case api.Emph, api.Link:
			n += 2 + marksOf(s.Kids, nil)
		}
	}
	for _, b := range blocks {
		switch b.Kind {
		case api.Para, api.Heading:
			n += 2 + marksOf(b.Spans, nil)
		case api.Rule:
			n++
		case api.Fence:
			n += 4
		case api.Quote, api.List, api.Item:
			n += 2 + marksOf(nil, b.Kids)
		}
	}
	return n
}

// holdMarks holds that what is shown has a < and a > for each mark, and no other one.
func holdMarks(t *testing.T, got string, marks int) {
	t.Helper()
	if strings.Count(got, "<") != marks || strings.Count(got, ">") != marks {
		t.Fatalf("%q has other marks than %d", got, marks)
	}
}

// part is an element of what is shown, as another reader of marks finds it, or, without a name, what stands between two.
type part struct {
	name, has, text string
	parts           []part
}

// partsIn reads what is shown up to the end that stands next.
func partsIn(t *testing.T, from *xml.Decoder) []part {
	t.Helper()
	var out []part
	for {
		token, err := from.Token()
		if err == io.EOF {
			return out
		}
		if err != nil {
			t.Fatal(err)
		}
		switch x := token.(type) {
		case xml.EndElement:
			return out
		case xml.CharData:
			out = append(out, part{text: string(x)})
		case xml.StartElement:
			p := part{name: x.Name.Local}
			for _, a := range x.Attr {
				p.has += a.Name.Local + "=" + a.Value
			}
			p.parts = partsIn(t, from)
			out = append(out, p)
		}
	}
}

// spansIn is the spans that parts tell.
func spansIn(parts []part) []api.Span {
	var out []api.Span
	for _, p := range parts {
		switch p.name {
		case "":
			out = append(out, text(p.text))
		case "code":
			out = append(out, code(textIn(p.parts)))
		case "em":
			out = append(out, emph(spansIn(p.parts)...))
		case "a":
			out = append(out, link(strings.TrimPrefix(p.has, "href="), spansIn(p.parts)...))
		}
	}
	return out
}

// textIn is what parts have between them.
func textIn(parts []part) string {
	all := ""
	for _, p := range parts {
		all += p.text
	}
	return all
}

// blocksIn is the blocks that parts tell. (Between any two there are line ends alone.)
func blocksIn(parts []part) []api.Block {
	var out []api.Block
	for _, p := range parts {
		switch p.name {
		case "":
		case "p":
			out = append(out, para(spansIn(p.parts)...))
		case "hr":
			out = append(out, rule)
		case "pre":
			code := p.parts[0]
			lines := strings.Split(textIn(code.parts), "\n")
			out = append(out, fence(strings.TrimPrefix(code.has, "class=language-"), lines[:len(lines)-1]...))
		case "blockquote":
			out = append(out, quote(blocksIn(p.parts)...))
		case "ul":
			out = append(out, list(blocksIn(p.parts)...))
		case "li":
			out = append(out, item(blocksIn(p.parts)...))
		default:
			out = append(out, heading(int(p.name[1]-'0'), spansIn(p.parts)...))
		}
	}
	return out
}

// seen is what can be seen of blocks in normal form: all but their Defs, and of an Info what stands ahead of its first space.
func seen(l []api.Block) []api.Block {
	var out []api.Block
	for _, b := range l {
		if b.Kind == api.Def {
			continue
		}
		b.Info, _, _ = strings.Cut(b.Info, " ")
		b.Kids = seen(b.Kids)
		out = append(out, b)
	}
	return out
}

// readBack reads what is shown by another reader of marks.
func readBack(t *testing.T, s string) []part {
	t.Helper()
	return partsIn(t, xml.NewDecoder(strings.NewReader(s)))
}

// holdRead holds that blocks in normal form, of characters that the other reader takes, can be told from what is shown of them.
func holdRead(t *testing.T, l []api.Block) {
	t.Helper()
	got := Blocks(l)
	if back := blocksIn(readBack(t, got)); !tree.Same(back, seen(l)) {
		t.Fatalf("%q: of %+v, read as %+v", got, l, back)
	}
	if i := slices.IndexFunc(l, func(b api.Block) bool { return b.Kind == api.Para }); i >= 0 {
		shown := Spans(l[i].Spans)
		if back := spansIn(readBack(t, shown)); !span.Same(back, l[i].Spans) {
			t.Fatalf("%q: of %+v, read as %+v", shown, l[i].Spans, back)
		}
	}
}
