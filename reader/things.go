package reader

import (
	"slices"

	"whelk/api"
	"whelk/lexer"
)

// source is a text that is read, and which places in it are told.
type source struct {
	text string
	base int // the place of all that stands in it; own, if each has its own
}

const own = -1

func (s source) place(at int) int {
	if s.base == own {
		return at
	}
	return s.base
}

// within is a text that stands at a place of s, but not byte by byte.
func (s source) within(text string, at int) source { return source{text, s.place(at)} }

// thing is one of the lexer's, and where it comes from.
type thing struct {
	lexer.Token
	src   source
	in    *aliased
	blank bool // the word behind it is looked at like a first one
	asked bool // it is known whether it is an alias
}

func (t thing) place() int { return t.src.place(t.At) }

func (t thing) isOp(s string) bool { return t.Kind == lexer.Op && t.Text == s }

func (t thing) isWord(s string) bool { return t.Kind == lexer.Word && t.Text == s }

func (t thing) isReserved() bool { return t.Kind == lexer.Word && lexer.Reserved(t.Text) }

// mostNested is how many compound commands and Commands may be in one another at all: more than the promises'
// bound they are only where the texts of aliases are put together.
const mostNested = 1 << 16

// tally is what is counted over a line, and the lines of its Commands.
type tally struct {
	aliases int
	nested  int // compound commands and Commands around what is read
}

// reader goes through the things of a text.
type reader struct {
	src   source
	at    int      // what stands ahead of it was taken as things
	back  []thing  // things that were put back: the next one is the last
	look  bool     // the next thing stands behind an alias's text that ends with a blank
	texts []func() // what reads the texts in place that are still to come
	alias Alias    // nil, if none is known
	tally *tally   // what is counted over the line
	in    *aliased // those in whose texts src stands
	inner bool     // src is a Command's
}

func newReader(s string, at int, alias Alias) *reader {
	return &reader{src: source{s, own}, at: at, alias: alias, tally: &tally{}}
}

// lex is the thing that the text itself has next.
func (r *reader) lex() thing {
	t, e := lexer.Next(r.src.text, r.at)
	if e != api.OK {
		r.more()
	}
	r.at = t.Stop
	return thing{Token: t, src: r.src, in: r.in}
}

// peek is the thing that comes next.
func (r *reader) peek() thing {
	if len(r.back) == 0 {
		r.putBack(r.lex())
	}
	return r.back[len(r.back)-1]
}

// behind is what stands behind the thing that was peeked at: that does not stop reading, if it does not end.
func (r *reader) behind() lexer.Token {
	if n := len(r.back); n > 1 {
		return r.back[n-2].Token
	}
	t, _ := lexer.Next(r.src.text, r.at)
	return t
}

func (r *reader) putBack(l ...thing) {
	slices.Reverse(l)
	r.back = append(r.back, l...)
}

// next takes a thing; with a line feed the texts in place that stand behind it.
func (r *reader) next() thing {
	t := r.peek()
	r.back = r.back[:len(r.back)-1]
	r.look = t.blank
	if t.Kind == lexer.Newline {
		for _, read := range r.texts {
			read()
		}
		r.texts = nil
	}
	return t
}

// more ends reading where the text ends, and more is needed. A Command is whole: what is missing in it cannot come.
func (r *reader) more() {
	if r.inner {
		throw(r.src.place(len(r.src.text)), api.ErrSyntax)
	}
	throw(len(r.src.text), api.ErrMore)
}

// stuck ends reading at the thing that comes next.
func (r *reader) stuck() {
	t := r.peek()
	if t.Kind == lexer.End {
		r.more()
	}
	throw(t.place(), api.ErrSyntax)
}

// nest reads what is in one more compound command or Command, which begins at a place.
func nest[T any](c *tally, place int, read func() T) T {
	if c.nested == mostNested {
		throw(place, api.ErrDeep)
	}
	c.nested++
	out := read()
	c.nested--
	return out
}

// takes takes an op, if it comes next.
func (r *reader) takes(op string) bool {
	if !r.peek().isOp(op) {
		return false
	}
	r.next()
	return true
}

// takesWord takes a reserved word, if it comes next.
func (r *reader) takesWord(s string) bool {
	if !r.peek().isWord(s) {
		return false
	}
	r.next()
	return true
}

func (r *reader) want(op string) {
	if !r.takes(op) {
		r.stuck()
	}
}

func (r *reader) wantWord(s string) {
	if !r.takesWord(s) {
		r.stuck()
	}
}

// lineFeeds goes over line feeds, and tells whether there were some.
func (r *reader) lineFeeds() bool {
	found := false
	for r.peek().Kind == lexer.Newline {
		r.next()
		found = true
	}
	return found
}
