package sums

import (
	"math"
	"strings"

	"whelk/api"
)

// Kinds of things.
const (
	ending = iota
	number
	name
	other // a mark, or a byte that none begins with
)

// thing is what stands at a place of a text.
type thing struct {
	kind int
	text string
	num  int64 // of a number
	at   int
}

// reader reads a text as an expression, from the front on.
type reader struct {
	s string
	// next is the thing that is not yet read. What is wrong with a thing is thrown before the one
	// behind it is looked at, so that what is thrown is what comes first.
	next thing
	// within is how many brackets, marks ahead, ? and marks of assignments stand open around it.
	within int
}

// parse is the expression of a text.
func parse(s string) Expr {
	r := &reader{s: s}
	r.look(0)
	if r.next.kind == ending {
		return Expr{Op: "num"}
	}
	e := r.assignment()
	if r.next.kind != ending {
		throw(api.ErrSyntax, r.next.at)
	}
	return e
}

// look finds the thing that begins first from a place on.
func (r *reader) look(at int) {
	for at < len(r.s) && strings.IndexByte(blanks, r.s[at]) >= 0 {
		at++
	}
	rest := r.s[at:]
	if rest == "" {
		r.next = thing{kind: ending, at: at}
		return
	}
	if n := nameLength(rest); n > 0 {
		r.next = thing{kind: name, text: rest[:n], at: at}
		return
	}
	if v, n := digits(rest); n > 0 {
		if v > math.MaxInt64 || n < len(rest) && inName(rest[n]) {
			throw(api.ErrNumber, at)
		}
		r.next = thing{kind: number, text: rest[:n], num: int64(v), at: at}
		return
	}
	r.next = thing{kind: other, text: longestMark(rest), at: at}
}

// longestMark is the longest mark with which a text begins; if there is none, its first byte.
func longestMark(s string) string {
	for n := min(3, len(s)); n > 1; n-- {
		if isMark(s[:n]) {
			return s[:n]
		}
	}
	return s[:1]
}

// step goes over the thing that is next.
func (r *reader) step() { r.look(r.next.at + len(r.next.text)) }

// need goes over a mark that must be next.
func (r *reader) need(mark string) {
	if r.next.text != mark {
		throw(api.ErrSyntax, r.next.at)
	}
	r.step()
}

// enter goes over a mark that what follows stands within.
func (r *reader) enter() {
	if r.within == api.MaxDepth {
		throw(api.ErrDeep, r.next.at)
	}
	r.within++
	r.step()
}

// assignment reads an assignment, or what goes ahead of one.
func (r *reader) assignment() Expr {
	// What begins with a name, and is one, is the name alone: a bracket would begin it otherwise.
	named := r.next.kind == name
	e := r.choice()
	mark := r.next
	if !assigns(mark.text) {
		return e
	}
	if !named || e.Op != "name" {
		throw(api.ErrPlace, mark.at)
	}
	r.enter()
	kid := r.assignment()
	r.within--
	return Expr{Op: mark.text, Name: e.Name, Kids: []Expr{kid}}
}

// choice reads a condition and what it chooses from, or what goes ahead of one.
func (r *reader) choice() Expr {
	e := r.between(1)
	if r.next.text != "?" {
		return e
	}
	r.enter()
	yes := r.assignment()
	r.need(":")
	no := r.choice()
	r.within--
	return Expr{Op: "?", Kids: []Expr{e, yes, no}}
}

// between reads operands and the marks between them, of this row and those that go ahead of it.
func (r *reader) between(least int) Expr {
	e := r.operand()
	for {
		mark := r.next.text
		this := row(mark)
		if this < least {
			return e
		}
		r.step()
		e = Expr{Op: mark, Kids: []Expr{e, r.between(this + 1)}}
	}
}

// operand reads a number, a name, a bracket, or one of these behind marks ahead.
func (r *reader) operand() Expr {
	t := r.next
	switch {
	case t.kind == number:
		r.step()
		return Expr{Op: "num", Num: t.num}
	case t.kind == name:
		r.step()
		return Expr{Op: "name", Name: t.text}
	case t.text == "(":
		r.enter()
		e := r.assignment()
		r.need(")")
		r.within--
		return e
	case opAhead(t.text) != "":
		r.enter()
		e := r.operand()
		r.within--
		return Expr{Op: opAhead(t.text), Kids: []Expr{e}}
	}
	throw(api.ErrSyntax, t.at)
	return Expr{}
}
