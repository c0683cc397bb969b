package reader

import (
	"slices"
	"strings"

	"whelk/api"
	"whelk/lexer"
	"whelk/state"
)

// mostAliases is how many aliases a line may have.
const mostAliases = 100

// aliased is an alias in whose text something stands, and those in whose texts that stands.
type aliased struct {
	name string
	out  *aliased
}

func (a *aliased) has(name string) bool {
	for ; a != nil; a = a.out {
		if a.name == name {
			return true
		}
	}
	return false
}

// begin goes to where a command may begin: over line feeds, and with what aliases put there.
func (r *reader) begin() {
	r.lineFeeds()
	for r.unaliasFirst() {
		r.lineFeeds()
	}
}

// beginHere is begin where no line feeds may stand.
func (r *reader) beginHere() {
	for r.unaliasFirst() {
	}
}

// unaliasFirst looks at a word with which a command begins.
func (r *reader) unaliasFirst() bool {
	t := r.peek()
	return !t.isReserved() && !isSet(t) && !r.isFunc() && r.unalias()
}

// unalias puts the things of an alias's text in the place of the word that comes next, if it is one.
func (r *reader) unalias() bool {
	t := r.peek()
	if r.alias == nil || t.Kind != lexer.Word || t.asked || t.in.has(t.Text) || isQuoted(t.Text) {
		return false
	}
	r.back[len(r.back)-1].asked = true
	text, ok := r.alias(t.Text)
	if !ok {
		return false
	}
	l := r.textThings(t, text)
	r.next()
	blank := t.blank || strings.HasSuffix(text, " ") || strings.HasSuffix(text, "\t")
	if len(l) == 0 {
		r.look = blank
		return true
	}
	l[len(l)-1].blank = blank
	r.look = true
	r.putBack(l...)
	return true
}

// textThings are the things of an alias's text, all at the place of its word.
func (r *reader) textThings(t thing, text string) []thing {
	l, _, e := lexer.All(text)
	if e != api.OK || slices.ContainsFunc(l, isKeptOff) {
		throw(t.place(), api.ErrSyntax)
	}
	if r.tally.aliases == mostAliases {
		throw(t.place(), api.ErrDeep)
	}
	r.tally.aliases++
	src, in := t.src.within(text, t.At), &aliased{t.Text, t.in}
	var out []thing
	for _, x := range l {
		out = append(out, thing{Token: x, src: src, in: in})
	}
	return out
}

// isKeptOff tells whether a thing may not be in an alias's text: lines stand in the script alone.
func isKeptOff(t lexer.Token) bool {
	return t.Kind == lexer.Newline || t.Kind == lexer.Op && redirKind(t.Text) == api.Here
}

// isSet tells whether a thing is a name=word.
func isSet(t thing) bool {
	name, _, ok := strings.Cut(t.Text, "=")
	return ok && t.Kind == lexer.Word && state.Name(name)
}

// isFunc tells whether what comes next is the name of a Func.
func (r *reader) isFunc() bool {
	t := r.peek()
	if t.Kind != lexer.Word || !state.Name(t.Text) {
		return false
	}
	b := r.behind()
	return b.Kind == lexer.Op && b.Text == "("
}
