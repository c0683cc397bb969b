package reader

import (
	"strings"

	"whelk/api"
	"whelk/lexer"
)

// whole is the place behind what counts as a whole at a place: what is quoted, a hole, or else a byte. The lexer has seen that it ends.
func whole(text string, at int) int {
	switch text[at] {
	case '\\':
		return at + 2
	case '\'':
		return at + 2 + strings.IndexByte(text[at+1:], '\'')
	case '"':
		return quoteStop(text, at)
	}
	return holeOrByte(text, at)
}

func holeOrByte(text string, at int) int {
	if stop, e := lexer.Hole(text, at); e == api.OK {
		return stop
	}
	return at + 1
}

// quoteStop is the place behind the " that goes with the one at a place.
func quoteStop(text string, at int) int {
	at++
	for text[at] != '"' {
		if text[at] == '\\' {
			at += 2
		} else {
			at = holeOrByte(text, at)
		}
	}
	return at + 1
}

// unquoted is a word without its quotes, and whether it has some.
func unquoted(word string) (string, bool) {
	var out strings.Builder
	quoted := false
	for at := 0; at < len(word); {
		stop := whole(word, at)
		part := word[at:stop]
		switch part[0] {
		case '\\':
			part = strings.TrimPrefix(part[1:], "\n")
			quoted = true
		case '\'', '"':
			part = part[1 : len(part)-1]
			quoted = true
		}
		out.WriteString(part)
		at = stop
	}
	return out.String(), quoted
}

func isQuoted(word string) bool {
	_, quoted := unquoted(word)
	return quoted
}

// isSum tells whether a hole that begins with $( is an expression: whether the ( behind that goes with the ) ahead of the last one.
func isSum(text string, at, stop int) bool {
	if !strings.HasPrefix(text[at:stop], "$((") || !strings.HasSuffix(text[at:stop], "))") {
		return false
	}
	open := 0
	for i := at + len("$(("); i < stop-len("))"); i = whole(text, i) {
		switch text[i] {
		case '(':
			open++
		case ')':
			open--
		}
		if open < 0 {
			return false
		}
	}
	return true
}
