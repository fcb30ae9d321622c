package spanin

import (
	"strings"

	"emendation/api"
)

// place is what is read in.
type place struct{ emph, link bool }

// reader reads pieces, one behind the other: at is the next one.
type reader struct {
	pieces []piece
	at     int
}

// read is the spans that the pieces tell up to where reading ends in such a place. (It calls itself only where it is known that what is read will have an end: so nothing is read twice, and no deeper than an emphasis in a link or a link in an emphasis.)
func (r *reader) read(in place) []api.Span {
	var out gathered
	for r.at < len(r.pieces) && !r.ends(in) {
		p := r.pieces[r.at]
		r.at++
		switch {
		case p.kind == coded:
			out.add(api.Span{Kind: api.Code, S: p.s})
		case p.kind == star && r.beginsEmph(p, in):
			kids := r.read(place{emph: true, link: in.link})
			r.at++
			out.add(api.Span{Kind: api.Emph, Kids: kids})
		case p.kind == open && r.beginsLink(p, in):
			kids := r.read(place{emph: in.emph, link: true})
			to := r.pieces[r.at+1].s
			r.at += 2
			out.add(api.Span{Kind: api.Link, S: to[1 : len(to)-1], Kids: kids})
		default:
			out.addText(p.s)
		}
	}
	return out.all()
}

// ends tells whether reading ends at the next piece.
func (r *reader) ends(in place) bool {
	kind := r.pieces[r.at].kind
	return in.emph && kind == star || in.link && kind == shut
}

// beginsEmph tells whether what is read behind a star ends at a star, and has any span. (In an emphasis reading ends at the next star, whatever stands ahead of it, but for a ] in a link.)
func (r *reader) beginsEmph(p piece, in place) bool {
	if in.link && p.shut < p.star {
		return false
	}
	return p.star < len(r.pieces) && p.star > r.at
}

// beginsLink tells whether what is read behind a [ ends at a ], has any span, and is followed by a tail. (In a link reading ends at the next ], whatever stands ahead of it, but for a star in an emphasis.)
func (r *reader) beginsLink(p piece, in place) bool {
	if in.link || in.emph && p.star < p.shut {
		return false
	}
	behind := p.shut + 1
	return p.shut > r.at && behind < len(r.pieces) && r.pieces[behind].kind == tail
}

// gathered are spans, and the text behind them that isn't yet one.
type gathered struct {
	spans []api.Span
	text  strings.Builder
}

// addText is more text.
func (g *gathered) addText(s string) { g.text.WriteString(s) }

// add is one more span.
func (g *gathered) add(s api.Span) {
	g.spans = append(g.all(), s)
}

// all are the spans gathered, the text the last one, if there is any.
func (g *gathered) all() []api.Span {
	if g.text.Len() > 0 {
		g.spans = append(g.spans, api.Span{Kind: api.Text, S: g.text.String()})
		g.text.Reset()
	}
	return g.spans
}
