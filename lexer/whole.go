package lexer

import "strings"

// never stands for the place behind what does not end.
const never = -1

// whole is the place behind what counts as a whole at a place: what is quoted, a hole, or else a byte.
func whole(s string, at int) int {
	switch s[at] {
	case '\\':
		return escaped(s, at)
	case '\'':
		return until(s, at+1, '\'', one)
	case '"':
		return until(s, at+1, '"', inDouble)
	}
	return holeOrByte(s, at)
}

// until is the place behind the first byte b from a place on that stands in nothing that part takes as a whole.
func until(s string, at int, b byte, part func(string, int) int) int {
	for at != never && at < len(s) {
		if s[at] == b {
			return at + 1
		}
		at = part(s, at)
	}
	return never
}

// one takes nothing but bytes.
func one(_ string, at int) int { return at + 1 }

// escaped takes a \ and the byte behind it as a whole.
func escaped(s string, at int) int {
	if s[at] != '\\' {
		return at + 1
	}
	if at+1 == len(s) {
		return never
	}
	return at + 2
}

// inDouble takes what counts as a whole between two ".
func inDouble(s string, at int) int {
	if s[at] == '\\' {
		return escaped(s, at)
	}
	return holeOrByte(s, at)
}

// inBrackets takes what counts as a whole in a $( ), and a ( with the ) that goes with it.
func inBrackets(s string, at int) int {
	if s[at] == '(' {
		return until(s, at+1, ')', inBrackets)
	}
	return whole(s, at)
}

func holeOrByte(s string, at int) int {
	if isHole(s, at) {
		return hole(s, at)
	}
	return at + 1
}

// isHole is whether a hole begins at a place.
func isHole(s string, at int) bool {
	rest := s[at:]
	return strings.HasPrefix(rest, "`") || strings.HasPrefix(rest, "$(") || strings.HasPrefix(rest, "${")
}

// hole is the place behind the hole that begins at a place.
func hole(s string, at int) int {
	if s[at] == '`' {
		return until(s, at+1, '`', escaped)
	}
	if s[at+1] == '(' {
		return until(s, at+2, ')', inBrackets)
	}
	return until(s, at+2, '}', whole)
}
