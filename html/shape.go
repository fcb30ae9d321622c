package html

import "emendation/api"

// shape is how a kind of span is shown: what stands at its beginning and at its end, and what shows what stands between.
type shape struct {
	begin, end string
	between    func(p *page, s api.Span)
}

// shapeOf is the shape of a kind.
func shapeOf(kind int) shape {
	switch kind {
	case api.Text:
		return shape{between: own}
	case api.Code:
		return shape{"<code>", "</code>", own}
	case api.Emph:
		return shape{"<em>", "</em>", kids}
	case api.Link:
		return shape{`<a href="`, "</a>", placeAndKids}
	}
	return shape{between: nothing}
}

// spans shows spans, each in the shape of its kind.
func (p *page) spans(l []api.Span) {
	for _, s := range l {
		shown := shapeOf(s.Kind)
		p.put(shown.begin)
		shown.between(p, s)
		p.put(shown.end)
	}
}

// own shows a span's S.
func own(p *page, s api.Span) { p.text(s.S) }

// kids shows a span's Kids.
func kids(p *page, s api.Span) { p.spans(s.Kids) }

// placeAndKids shows where a link goes to, up to its first mark's end, and its Kids.
func placeAndKids(p *page, s api.Span) {
	p.text(s.S)
	p.put(`">`)
	p.spans(s.Kids)
}

// nothing shows nothing.
func nothing(*page, api.Span) {}
