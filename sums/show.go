package sums

import (
	"strings"

	"whelk/api"
)

// check throws, if an expression, or one in it, may not be.
func check(e Expr) {
	if len(e.Kids) != kids(e.Op) {
		throw(api.ErrArg, 0)
	}
	if e.Op == "num" && e.Num < 0 {
		throw(api.ErrArg, 0)
	}
	if (e.Op == "name" || assigns(e.Op)) && !isName(e.Name) {
		throw(api.ErrArg, 0)
	}
	for _, k := range e.Kids {
		check(k)
	}
}

// isName is whether a text is a name.
func isName(s string) bool { return s != "" && nameLength(s) == len(s) }

// show puts an expression that may be.
func show(out *strings.Builder, e Expr) {
	switch {
	case e.Op == "num":
		put(out, Text(e.Num))
		return
	case e.Op == "name":
		put(out, e.Name)
		return
	}
	put(out, "(")
	switch len(e.Kids) {
	case 1:
		// Of a mark ahead there is no name, of an assignment there is no other mark.
		if assigns(e.Op) {
			put(out, e.Name+e.Op)
		} else {
			put(out, markAhead(e.Op))
		}
		show(out, e.Kids[0])
	case 2:
		show(out, e.Kids[0])
		put(out, e.Op)
		show(out, e.Kids[1])
	case 3:
		show(out, e.Kids[0])
		put(out, "?")
		show(out, e.Kids[1])
		put(out, ":")
		show(out, e.Kids[2])
	}
	put(out, ")")
}

// put throws as soon as there is too much, so that no more than that is ever put.
func put(out *strings.Builder, s string) {
	if out.Len()+len(s) > api.MaxText {
		throw(api.ErrBig, 0)
	}
	out.WriteString(s)
}
