package sums

import (
	"math"
	"strconv"
	"strings"

	"whelk/api"
)

// blanks are the bytes that do not count.
const blanks = "\t\n\v\f\r "

// tooGreat stands for all numbers that are so, also behind a `-`.
const tooGreat = math.MaxInt64 + 2

// Number: P3.1.
func Number(s string) (int64, api.Errno) {
	s = strings.Trim(s, blanks)
	if s == "" {
		return 0, api.OK
	}
	most := uint64(math.MaxInt64)
	minus := s[0] == '-'
	if minus {
		most++
	}
	if minus || s[0] == '+' {
		s = s[1:]
	}
	v, n := digits(s)
	if n == 0 || n < len(s) || v > most {
		return 0, api.ErrNumber
	}
	if minus {
		v = -v
	}
	return int64(v), api.OK
}

// Text: P3.1.
func Text(n int64) string { return strconv.FormatInt(n, 10) }

// digits is the value of the number with which a text begins, and how many bytes it has; of none, if there is no number.
func digits(s string) (uint64, int) {
	base, n := uint64(10), 0
	if strings.HasPrefix(s, "0") {
		base = 8
		if len(s) > 2 && (s[1] == 'x' || s[1] == 'X') && digit(s[2]) < 16 {
			base, n = 16, 2
		}
	}
	var v uint64
	for ; n < len(s) && digit(s[n]) < base; n++ {
		if v > tooGreat/base {
			v = tooGreat
			continue
		}
		v = min(v*base+digit(s[n]), tooGreat)
	}
	return v, n
}

// digit is what a byte says in a number; 16 of a byte that says nothing in any.
func digit(b byte) uint64 {
	switch {
	case '0' <= b && b <= '9':
		return uint64(b - '0')
	case 'a' <= b && b <= 'f':
		return uint64(b-'a') + 10
	case 'A' <= b && b <= 'F':
		return uint64(b-'A') + 10
	}
	return 16
}

// nameLength is how many bytes of a name a text begins with; 0, if it begins with none.
func nameLength(s string) int {
	n := 0
	for n < len(s) && inName(s[n]) && (n > 0 || s[n] < '0' || s[n] > '9') {
		n++
	}
	return n
}

// inName is whether a name may have a byte.
func inName(b byte) bool {
	return 'a' <= b && b <= 'z' || 'A' <= b && b <= 'Z' || '0' <= b && b <= '9' || b == '_'
}
