package reader

import (
	"strings"

	"whelk/api"
	"whelk/lexer"
	"whelk/trees"
)

// Places of pieces: those in a ${} are told as bare ones are.
const (
	bare = iota
	inQuotes
	inText
	inSum
)

// speller reads the pieces of a text.
type speller struct {
	src source
	in  *aliased // the aliases in whose texts src stands
	of  *reader  // that of the things around
}

// pieces reads what stands between two places of a text as a word.
func (r *reader) pieces(src source, in *aliased, at, end, place int) api.Word {
	p := &speller{src: src, in: in, of: r}
	return trees.Clean(p.spell(at, end, place))
}

// spell reads pieces, neighbours not being joined yet.
func (p *speller) spell(at, end, place int) api.Word {
	var w api.Word
	for at < end {
		piece, stop := p.telling(at, place)(at, end, place)
		w = append(w, piece)
		at = stop
	}
	return w
}

// telling is what tells the piece that begins at a place, and the place behind it.
func (p *speller) telling(at, place int) func(at, end, place int) (api.Piece, int) {
	switch c := p.src.text[at]; {
	case c == '$':
		return p.dollar
	case c == '`':
		return p.ticks
	case place == inSum && strings.IndexByte("\\'\"#", c) >= 0:
		return p.refused
	case c == '\\' && place == bare:
		return p.escaped
	case c == '\\':
		return p.halfEscaped
	case c == '\'' && place == bare:
		return p.single
	case c == '"' && place == bare:
		return p.double
	}
	return p.plain
}

// wrong ends reading at a place of the text.
func (p *speller) wrong(at int) { throw(p.src.place(at), api.ErrSyntax) }

func (p *speller) refused(at, _, _ int) (api.Piece, int) {
	p.wrong(at)
	return api.Piece{}, 0
}

// plain tells bytes up to the next one that may mean something.
func (p *speller) plain(at, end, _ int) (api.Piece, int) {
	stop := end
	if n := strings.IndexAny(p.src.text[at+1:end], "$`\\'\"#"); n >= 0 {
		stop = at + 1 + n
	}
	return api.Piece{Kind: api.Bare, Text: p.src.text[at:stop]}, stop
}

// escaped tells the byte behind a \.
func (p *speller) escaped(at, _, _ int) (api.Piece, int) {
	text := strings.TrimPrefix(p.src.text[at+1:at+2], "\n")
	return api.Piece{Kind: api.Single, Text: text}, at + 2
}

// halfEscaped tells a \ that is not told only ahead of some bytes.
func (p *speller) halfEscaped(at, end, place int) (api.Piece, int) {
	next := p.src.text[at+1 : min(at+2, end)]
	switch next {
	case "$", "`", "\\":
		return api.Piece{Kind: api.Bare, Text: next}, at + 2
	case "\"", "\n":
		if place == inQuotes {
			return api.Piece{Kind: api.Bare, Text: strings.TrimPrefix(next, "\n")}, at + 2
		}
	}
	return api.Piece{Kind: api.Bare, Text: "\\"}, at + 1
}

func (p *speller) single(at, _, _ int) (api.Piece, int) {
	stop := whole(p.src.text, at)
	return api.Piece{Kind: api.Single, Text: p.src.text[at+1 : stop-1]}, stop
}

func (p *speller) double(at, _, _ int) (api.Piece, int) {
	stop := whole(p.src.text, at)
	return api.Piece{Kind: api.Double, Kids: p.spell(at+1, stop-1, inQuotes)}, stop
}

// hole is the place behind a hole, if one begins at a place: in a text in place it may not end.
func (p *speller) hole(at int) (int, bool) {
	stop, e := lexer.Hole(p.src.text, at)
	if e == api.ErrMore {
		p.wrong(at)
	}
	return stop, e == api.OK
}

// ticks tells the Command between two `.
func (p *speller) ticks(at, _, _ int) (api.Piece, int) {
	stop, _ := p.hole(at)
	src := p.src.within(unticked(p.src.text[at+1:stop-1]), at)
	return api.Piece{Kind: api.Command, Body: p.lines(src, 0)}, stop
}

// unticked is what stands between two ` as a script.
func unticked(s string) string {
	return strings.NewReplacer("\\$", "$", "\\`", "`", "\\\\", "\\").Replace(s)
}

// lines reads the lines of a Command from a place of a text on.
func (p *speller) lines(src source, at int) []api.Node {
	r := &reader{src: src, at: at, alias: p.of.alias, tally: p.of.tally, in: p.in, inner: true}
	return nest(r.tally, src.place(at), r.lines)
}

// dollar tells what begins with a $.
func (p *speller) dollar(at, end, place int) (api.Piece, int) {
	text := p.src.text
	if stop, ok := p.hole(at); ok {
		switch {
		case text[at+1] == '{':
			return p.braced(at, stop), stop
		case isSum(text, at, stop):
			return api.Piece{Kind: api.Math, Kids: p.spell(at+3, stop-2, inSum)}, stop
		}
		inner := source{text[:stop-1], p.src.base}
		return api.Piece{Kind: api.Command, Body: p.lines(inner, at+2)}, stop
	}
	if stop := p.shortName(at+1, end); stop > at+1 {
		return api.Piece{Kind: api.Param, Text: text[at+1 : stop]}, stop
	}
	switch place {
	case inSum:
		p.wrong(at)
	case bare:
		return api.Piece{Kind: api.Single, Text: "$"}, at + 1
	}
	return api.Piece{Kind: api.Bare, Text: "$"}, at + 1
}
