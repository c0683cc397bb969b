package reader

import (
	"strings"

	"whelk/api"
	"whelk/lexer"
)

// opMark is how an op of a parameter is written.
type opMark struct {
	mark string
	op   int
}

func isDigit(c byte) bool { return '0' <= c && c <= '9' }

func isLetter(c byte) bool { return 'a' <= c && c <= 'z' || 'A' <= c && c <= 'Z' || c == '_' }

func isSign(c byte) bool { return strings.IndexByte("@*#?-$!", c) >= 0 }

// nameStop is the place behind the name at a place; that place itself, if there is none.
func nameStop(text string, at, end int) int {
	if at == end || !isLetter(text[at]) {
		return at
	}
	for at < end && (isLetter(text[at]) || isDigit(text[at])) {
		at++
	}
	return at
}

// shortName is the place behind a parameter's name that stands without braces.
func (p *speller) shortName(at, end int) int {
	if at == end {
		return at
	}
	c := p.src.text[at]
	if isDigit(c) || isSign(c) && !p.isHole(at) {
		return at + 1
	}
	return nameStop(p.src.text, at, end)
}

func (p *speller) isHole(at int) bool {
	_, e := lexer.Hole(p.src.text, at)
	return e != api.ErrArg
}

// longName is the place behind a parameter's name in braces, be it a name or digits.
func longName(text string, at, end int) int {
	if at == end || !isDigit(text[at]) {
		return nameStop(text, at, end)
	}
	if text[at] == '0' {
		return at + 1
	}
	for at < end && isDigit(text[at]) {
		at++
	}
	return at
}

// braced tells a parameter in braces.
func (p *speller) braced(at, stop int) api.Piece {
	text, at, end := p.src.text, at+2, stop-1
	if text[at] == '#' {
		if n := longName(text, at+1, end); n > at+1 {
			p.mustEnd(n, end)
			return api.Piece{Kind: api.Param, Text: text[at+1 : n], Op: api.Length}
		}
	}
	if isSign(text[at]) {
		p.mustEnd(at+1, end)
		return api.Piece{Kind: api.Param, Text: text[at:end]}
	}
	n := longName(text, at, end)
	if n == at {
		p.wrong(at)
	}
	out := api.Piece{Kind: api.Param, Text: text[at:n]}
	if n < end {
		p.op(&out, n, end)
	}
	return out
}

func (p *speller) mustEnd(at, end int) {
	if at < end {
		p.wrong(at)
	}
}

// op tells a parameter's op and its word.
func (p *speller) op(out *api.Piece, at, end int) {
	marks := []opMark{
		{":-", api.Default}, {":=", api.Assign}, {":?", api.Need}, {":+", api.Alter},
		{"-", api.Default}, {"=", api.Assign}, {"?", api.Need}, {"+", api.Alter},
		{"%%", api.Tails}, {"%", api.Tail}, {"##", api.Heads}, {"#", api.Head},
	}
	for _, m := range marks {
		if strings.HasPrefix(p.src.text[at:end], m.mark) {
			out.Op, out.Colon = m.op, m.mark[0] == ':'
			out.Kids = p.spell(at+len(m.mark), end, bare)
			return
		}
	}
	p.wrong(at)
}
