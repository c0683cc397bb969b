package lexer

import (
	"iter"
	"strings"

	"whelk/api"
)

// things gives a text's things, one by one, but the End; what does not end is given by its error, as the last.
func things(s string) iter.Seq2[Token, api.Errno] {
	return func(yield func(Token, api.Errno) bool) {
		for at := 0; ; {
			t, e := next(s, at)
			if e != api.OK {
				yield(t, e)
				return
			}
			if t.Kind == End || !yield(t, e) {
				return
			}
			at = t.Stop
		}
	}
}

// next is the thing that begins first from a place on.
func next(s string, at int) (Token, api.Errno) {
	at = begin(s, at)
	if at == len(s) {
		return thing(s, End, at, at), api.OK
	}
	if s[at] == '\n' {
		return thing(s, Newline, at, at+1), api.OK
	}
	if n := opLength(s[at:]); n > 0 {
		return thing(s, Op, at, at+n), api.OK
	}
	stop := wordStop(s, at)
	if stop == never {
		return Token{At: at}, api.ErrMore
	}
	if digits(s[at:stop]) && redirected(s, stop) {
		return thing(s, Number, at, stop), api.OK
	}
	return thing(s, Word, at, stop), api.OK
}

func thing(s string, kind, at, stop int) Token {
	return Token{Kind: kind, Text: s[at:stop], At: at, Stop: stop}
}

// begin is the first place from at on at which nothing stands that stands between things.
func begin(s string, at int) int {
between:
	for at < len(s) {
		switch s[at] {
		case ' ', '\t':
			at++
		case '\\':
			if !strings.HasPrefix(s[at:], "\\\n") {
				break between
			}
			at += 2
		case '#':
			at = lineStop(s, at)
		default:
			break between
		}
	}
	return at
}

// lineStop is the place of the next line feed, or the end.
func lineStop(s string, at int) int {
	if n := strings.IndexByte(s[at:], '\n'); n >= 0 {
		return at + n
	}
	return len(s)
}

// opLength is how many bytes the longest op has with which a text begins; 0, if it begins with none.
func opLength(s string) int {
	for n := min(3, len(s)); n > 0; n-- {
		if isOp(s[:n]) {
			return n
		}
	}
	return 0
}

func isOp(s string) bool {
	switch s {
	case "&&", "||", ";;", "<<-", "<<", "<&", "<>", ">>", ">&", ">|", "&", "|", ";", "<", ">", "(", ")":
		return true
	}
	return false
}

// wordStop is the place behind the word at a place; never, if it does not end.
func wordStop(s string, at int) int {
	for at != never && at < len(s) && !endsWord(s[at]) {
		at = whole(s, at)
	}
	return at
}

// endsWord is whether a byte is a blank, a tab or a line feed, or begins an op.
func endsWord(b byte) bool { return strings.IndexByte(" \t\n&|;<>()", b) >= 0 }

// redirected is whether a < or > stands at a place.
func redirected(s string, at int) bool {
	return at < len(s) && (s[at] == '<' || s[at] == '>')
}

// digits is whether all bytes are digits.
func digits(s string) bool { return strings.Trim(s, "0123456789") == "" }
