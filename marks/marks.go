// Package marks is layer 1: see shared/doc/01-marks.md.
package marks

import (
	"slices"
	"strings"

	"whelk/api"
)

// Char is a byte, and whether it was quoted.
type Char struct {
	B byte
	Q bool
}

// Run is bytes that are all quoted, or all bare.
type Run struct {
	Text string
	Q    bool
}

// Of: P1.1.
func Of(s string, quoted bool) []Char {
	out := make([]Char, len(s))
	for i := range len(s) {
		out[i] = Char{B: s[i], Q: quoted}
	}
	return out
}

// Plain: P1.1.
func Plain(t []Char) string {
	var out strings.Builder
	out.Grow(len(t))
	for _, c := range t {
		out.WriteByte(c.B)
	}
	return out.String()
}

// Join: P1.1.
func Join(l ...[]Char) []Char { return slices.Concat(l...) }

// Runs: P1.1.
func Runs(t []Char) []Run {
	var out []Run
	start := 0
	end := func(stop int) {
		out = append(out, Run{Text: Plain(t[start:stop]), Q: t[start].Q})
		start = stop
	}
	for i, c := range t {
		if c.Q != t[start].Q {
			end(i)
		}
	}
	if len(t) > 0 {
		end(len(t))
	}
	return out
}

// Find: P1.2.
func Find(t []Char, b byte) int {
	bare := Char{B: b}
	for i, c := range t {
		if c == bare {
			return i
		}
	}
	return -1
}

// Part: P1.2.
func Part(t []Char, b byte) [][]Char {
	var out [][]Char
	for i := Find(t, b); i >= 0; i = Find(t, b) {
		out = append(out, fresh(t[:i]))
		t = t[i+1:]
	}
	return append(out, fresh(t))
}

// Strip: P1.2.
func Strip(t []Char, set string) []Char {
	// A long set is gone through once, not once a byte of t.
	var in [256]bool
	for i := range len(set) {
		in[set[i]] = true
	}
	goes := func(c Char) bool { return !c.Q && in[c.B] }
	for len(t) > 0 && goes(t[0]) {
		t = t[1:]
	}
	for len(t) > 0 && goes(t[len(t)-1]) {
		t = t[:len(t)-1]
	}
	return fresh(t)
}

// fresh is a copy, so that what is answered shares nothing with what was handed in.
func fresh(t []Char) []Char { return append([]Char(nil), t...) }

// Hard: P1.2.
func Hard(t []Char) (bool, bool) {
	some, all := false, true
	for _, c := range t {
		some = some || c.Q
		all = all && c.Q
	}
	return some, all
}

// Escape: P1.3.
func Escape(t []Char) string {
	var out strings.Builder
	for _, c := range t {
		switch {
		case c == Char{B: '\\'} || c == Char{B: '\''}:
			return ""
		case c == Char{B: '\n', Q: true}:
			// A line feed behind a \ would be read as nothing.
			out.WriteString("'\n'")
		case c.Q:
			out.WriteByte('\\')
			out.WriteByte(c.B)
		default:
			out.WriteByte(c.B)
		}
	}
	return out.String()
}

// Read: P1.3.
func Read(s string) ([]Char, api.Errno) {
	var out []Char
	for i := 0; i < len(s); i++ {
		switch s[i] {
		case '\\':
			i++
			if i == len(s) {
				return nil, api.ErrMore
			}
			if s[i] != '\n' {
				out = append(out, Char{B: s[i], Q: true})
			}
		case '\'':
			n := strings.IndexByte(s[i+1:], '\'')
			if n < 0 {
				return nil, api.ErrMore
			}
			out = append(out, Of(s[i+1:i+1+n], true)...)
			i += n + 1
		default:
			out = append(out, Char{B: s[i]})
		}
	}
	return out, api.OK
}

// Chomp: P1.4.
func Chomp(s string) string { return strings.TrimRight(s, "\n") }
