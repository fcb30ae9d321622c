package parse

import (
	"emendation/api"
	"emendation/kind"
	"emendation/lines"
	"emendation/spanin"
)

// reader reads lines as blocks, with room for so many containers one in the other.
type reader struct{ room int }

// blocks is what lines tell.
func (r reader) blocks(l []string) ([]api.Block, api.Errno) {
	var out []api.Block
	for _, place := range Spread(l) {
		b, e := r.block(l[place[0]:place[1]])
		if e != api.OK {
			return nil, e
		}
		out = append(out, b)
	}
	return out, api.OK
}

// block is the one block that lines tell, from its first line to its last one.
func (r reader) block(l []string) (api.Block, api.Errno) {
	switch kind.Of(l[0]) {
	case kind.Heading:
		return heading(l[0]), api.OK
	case kind.Rule:
		return api.Block{Kind: api.Rule}, api.OK
	case kind.Fence:
		return fence(l), api.OK
	case kind.Quote:
		return r.container(api.Quote, quoted(l))
	case kind.Item:
		return r.list(l)
	case kind.Def:
		return kind.Define(l[0]), api.OK
	}
	return para(l), api.OK
}

// within is what reads in a container; ErrDeep, if there is no room for one.
func (r reader) within() (reader, api.Errno) {
	if r.room == 0 {
		return reader{}, api.ErrDeep
	}
	return reader{room: r.room - 1}, api.OK
}

// list is a List, of the lines of its Items, and of Blank ones between these.
func (r reader) list(l []string) (api.Block, api.Errno) {
	inList, e := r.within()
	if e != api.OK {
		return api.Block{}, e
	}
	out := api.Block{Kind: api.List}
	for _, place := range items(l, 0) {
		item, e := inList.container(api.Item, itemized(l[place[0]:place[1]]))
		if e != api.OK {
			return api.Block{}, e
		}
		out.Kids = append(out.Kids, item)
	}
	return out, api.OK
}

// container is a block of a kind that has as Kids what lines tell.
func (r reader) container(k int, l []string) (api.Block, api.Errno) {
	inside, e := r.within()
	if e != api.OK {
		return api.Block{}, e
	}
	kids, e := inside.blocks(l)
	if e != api.OK {
		return api.Block{}, e
	}
	return api.Block{Kind: k, Kids: kids}, api.OK
}

// quoted is a Quote's lines without their marks.
func quoted(l []string) []string {
	out := make([]string, len(l))
	for i, s := range l {
		out[i] = kind.Unquote(s)
	}
	return out
}

// itemized is an Item's lines as they are in it: the first one without its mark, the others as they stand further on.
func itemized(l []string) []string {
	out := make([]string, len(l))
	out[0] = kind.Unitem(l[0])
	for i := 1; i < len(l); i++ {
		out[i], _ = kind.Inner(l[i])
	}
	return out
}

// heading is a Heading, of its line.
func heading(s string) api.Block {
	level, text := kind.Head(s)
	return api.Block{Kind: api.Heading, Level: level, Spans: spanin.Parse(text)}
}

// fence is a Fence, of its lines. (Only the last one of them can close it: so it is told whether there is one that does.)
func fence(l []string) api.Block {
	n, info := kind.Open(l[0])
	code := l[1:]
	if last := len(code) - 1; last >= 0 && kind.Closes(code[last], n) {
		code = code[:last]
	}
	return api.Block{Kind: api.Fence, Info: info, Lines: append([]string(nil), code...)}
}

// para is a Para, of its lines.
func para(l []string) api.Block {
	trimmed := make([]string, len(l))
	for i, s := range l {
		trimmed[i] = lines.Trim(s)
	}
	return api.Block{Kind: api.Para, Spans: spanin.Parse(lines.Join(trimmed, false))}
}
