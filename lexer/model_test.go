package lexer_test

import (
	"math/rand/v2"
	"regexp"
	"slices"
	"strings"
	"testing"

	"whelk/api"
	"whelk/lexer"
)

// everyText calls f with each text of up to most of these bytes.
func everyText(of string, most int, f func(string)) {
	var grow func(s string, n int)
	grow = func(s string, n int) {
		f(s)
		if n < most {
			for i := range len(of) {
				grow(s+of[i:i+1], n+1)
			}
		}
	}
	grow("", 0)
}

// special are the bytes that mean something, and some that don't.
const special = "a2 \t\n\\'\"$(){}`#<>&-"

// someTexts calls f with texts made up at random, of up to most parts.
func someTexts(n, most int, f func(string)) {
	r := rand.New(rand.NewPCG(11, 36))
	parts := append(strings.Split(special, ""), "$(", "${", "\\\n", "||", ";;", "|", ";", "12", "ab", "$(a)", "'b c'", "\"", "`", ")", "}", ")", "}")
	for range n {
		var s strings.Builder
		for range r.IntN(most + 1) {
			s.WriteString(parts[r.IntN(len(parts))])
		}
		f(s.String())
	}
}

// open is what stands open at a place: the bytes that would end it, the innermost last; a ) of a ( in a hole too.
type open []byte

// read goes from a place on by states, till what stands open there, and all within, has ended; what is left open, if it doesn't, and whether a \ is the last byte.
func (o open) read(s string, at int) (open, int, bool) {
	for len(o) > 0 && at < len(s) {
		in, c := o[len(o)-1], s[at]
		shell := in == ')' || in == '}'
		two := s[at:min(at+2, len(s))]
		switch {
		case c == in:
			o = o[:len(o)-1]
			at++
		case in == '\'':
			at++
		case c == '\\':
			if at+1 == len(s) {
				return o, at, true
			}
			at += 2
		case in == '`':
			at++
		case two == "$(":
			o, at = append(o, ')'), at+2
		case two == "${":
			o, at = append(o, '}'), at+2
		case c == '`', shell && (c == '\'' || c == '"'):
			o, at = append(o, c), at+1
		case in == ')' && c == '(':
			o, at = append(o, ')'), at+1
		default:
			at++
		}
	}
	return o, at, false
}

var (
	between = regexp.MustCompile(`^(?:[ \t]|\\\n|#[^\n]*)*`)
	ops     = regexp.MustCompile(`^(?:&&|\|\||;;|<<-|<<|<&|<>|>>|>&|>\||[&|;<>()])`)
	ends    = regexp.MustCompile(`^(?:[ \t\n&|;<>()]|\z)`)
	number  = regexp.MustCompile(`^[0-9]+$`)
	begins  = regexp.MustCompile("^(?:`|\\$\\(|\\$\\{)")
)

// step is the place behind a byte of a word, or behind what begins there and counts as a whole; what is missing to its end, if it does not end.
func step(s string, at int) (int, string) {
	var o open
	n := 1
	switch {
	case s[at] == '\\':
		if at+1 == len(s) {
			return 0, "x"
		}
		return at + 2, ""
	case s[at] == '\'' || s[at] == '"' || s[at] == '`':
		o = open{s[at]}
	case strings.HasPrefix(s[at:], "$("):
		o, n = open{')'}, 2
	case strings.HasPrefix(s[at:], "${"):
		o, n = open{'}'}, 2
	}
	left, stop, escape := o.read(s, at+n)
	if len(left) == 0 {
		return stop, ""
	}
	slices.Reverse(left)
	if escape {
		return 0, "x" + string(left)
	}
	return 0, string(left)
}

// nextByStates is a second reading of Next; beside what does not end, the bytes that would end it.
func nextByStates(s string, at int) (lexer.Token, string) {
	at += len(between.FindString(s[at:]))
	thing := func(kind, stop int) (lexer.Token, string) {
		return lexer.Token{Kind: kind, Text: s[at:stop], At: at, Stop: stop}, ""
	}
	if at == len(s) {
		return thing(lexer.End, at)
	}
	if s[at] == '\n' {
		return thing(lexer.Newline, at+1)
	}
	if op := ops.FindString(s[at:]); op != "" {
		return thing(lexer.Op, at+len(op))
	}
	stop := at
	for !ends.MatchString(s[stop:]) {
		next, missing := step(s, stop)
		if missing != "" {
			return lexer.Token{At: at}, missing
		}
		stop = next
	}
	if number.MatchString(s[at:stop]) && strings.IndexAny(s[stop:], "<>") == 0 {
		return thing(lexer.Number, stop)
	}
	return thing(lexer.Word, stop)
}

// same holds what is answered of a text against the second reading, from each place on.
func same(t *testing.T, s string) {
	t.Helper()
	for at := range len(s) + 1 {
		want, missing := nextByStates(s, at)
		if got, e := lexer.Next(s, at); got != want || (e == api.ErrMore) != (missing != "") || e != api.OK && e != api.ErrMore {
			t.Fatalf("Next(%q, %d) = %v, %v, not %v", s, at, got, e, want)
		}
		stop, wantE := 0, api.ErrArg
		if begins.MatchString(s[at:]) {
			stop, missing = step(s, at)
			wantE = api.OK
			if missing != "" {
				wantE = api.ErrMore
			}
		}
		if got, e := lexer.Hole(s, at); got != stop || e != wantE {
			t.Fatalf("Hole(%q, %d) = %d, %v, not %d, %v", s, at, got, e, stop, wantE)
		}
	}
}

// sameAll holds All against the second reading.
func sameAll(t *testing.T, s string) {
	t.Helper()
	var want []lexer.Token
	place, wantE := 0, api.OK
	for at := 0; ; {
		x, missing := nextByStates(s, at)
		if missing != "" {
			place, wantE = x.At, api.ErrMore
			break
		}
		if x.Kind == lexer.End {
			break
		}
		want = append(want, x)
		at = x.Stop
	}
	if got, at, e := lexer.All(s); !slices.Equal(got, want) || at != place || e != wantE {
		t.Fatalf("All(%q) = %v, %d, %v, not %v, %d, %v", s, got, at, e, want, place, wantE)
	}
}

func TestNextShort_P11_1(t *testing.T) {
	everyText(special, 4, func(s string) { same(t, s) })
	everyText("$(`\"\\'){}", 5, func(s string) { same(t, s) })
}

func TestNextRandom_P11_1(t *testing.T) {
	someTexts(20000, 40, func(s string) { same(t, s) })
}

func TestAllRandom_P11_2(t *testing.T) {
	everyText(special, 4, func(s string) { sameAll(t, s) })
	someTexts(50000, 60, func(s string) { sameAll(t, s) })
}

// A thing that ends ahead of the end is the same, whatever stands behind.
func TestBehind_P11_4(t *testing.T) {
	holds := func(s, behind string) {
		for at := range len(s) + 1 {
			want, e := lexer.Next(s, at)
			if e != api.OK || want.Kind == lexer.End || want.Stop == len(s) {
				continue
			}
			if got, e := lexer.Next(s+behind, at); got != want || e != api.OK {
				t.Fatalf("Next(%q, %d) = %v, %v, not %v", s+behind, at, got, e, want)
			}
		}
	}
	everyText(special, 3, func(s string) {
		for i := range len(special) {
			holds(s, special[i:i+1])
		}
		for _, behind := range []string{"\\\n", "&&", "12>", "$(a", "'b"} {
			holds(s, behind)
		}
	})
	last := ""
	someTexts(20000, 20, func(s string) {
		holds(s, last)
		last = s
	})
}

// Things do not meet, and what stands between them has none.
func TestApart_P11_4(t *testing.T) {
	someTexts(50000, 40, func(s string) {
		l, place, e := lexer.All(s)
		end := len(s)
		if e != api.OK {
			end = place
		}
		from := 0
		for _, x := range append(l, lexer.Token{At: end}) {
			if x.At < from || x.Stop > end {
				t.Fatalf("%q: %v", s, l)
			}
			if gap, _, e := lexer.All(s[from:x.At]); len(gap) > 0 || e != api.OK {
				t.Fatalf("%q: %v stand in %q", s, gap, s[from:x.At])
			}
			from = x.Stop
		}
	})
}

// What is ErrMore ends, if the bytes come that are missing; till then it stays ErrMore, at the same place.
func TestMore_P11_4(t *testing.T) {
	holds := func(s string) {
		l, place, e := lexer.All(s)
		if e == api.OK {
			return
		}
		_, missing := nextByStates(s, place)
		for n := range len(missing) {
			got, at, e := lexer.All(s + missing[:n])
			if !slices.Equal(got, l) || at != place || e != api.ErrMore {
				t.Fatalf("%q and %q: %v, %d, %v", s, missing[:n], got, at, e)
			}
		}
		whole := s + missing
		want := append(l, lexer.Token{Kind: lexer.Word, Text: whole[place:], At: place, Stop: len(whole)})
		if got, at, e := lexer.All(whole); !slices.Equal(got, want) || at != 0 || e != api.OK {
			t.Fatalf("%q and %q: %v, %d, %v", s, missing, got, at, e)
		}
	}
	everyText(special, 4, holds)
	someTexts(50000, 40, holds)
}
