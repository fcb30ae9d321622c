package number

import (
	"strconv"
	"strings"

	"emendation/api"
)

// writer writes a key: how much there is of a thing stands ahead of it, so that no two things are written alike.
type writer struct{ strings.Builder }

// number writes a number.
func (w *writer) number(n int) {
	w.WriteString(strconv.Itoa(n))
	w.WriteByte(';')
}

// text writes a text.
func (w *writer) text(s string) {
	w.WriteString(strconv.Itoa(len(s)))
	w.WriteByte(':')
	w.WriteString(s)
}

// block writes a block.
func (w *writer) block(b api.Block) {
	w.number(b.Kind)
	w.number(b.Level)
	w.text(b.Info)
	w.number(len(b.Lines))
	for _, s := range b.Lines {
		w.text(s)
	}
	w.spans(b.Spans)
	w.number(len(b.Kids))
	for _, kid := range b.Kids {
		w.block(kid)
	}
}

// spans writes how many spans there are, and each of them.
func (w *writer) spans(l []api.Span) {
	w.number(len(l))
	for _, s := range l {
		w.number(s.Kind)
		w.text(s.S)
		w.spans(s.Kids)
	}
}
