package sums

import (
	"strings"

	"whelk/api"
)

// valuer works out values over a store.
type valuer struct{ store Store }

// value is the value of an expression.
func (v valuer) value(e Expr) int64 {
	if len(e.Kids) != kids(e.Op) {
		throw(api.ErrArg, 0)
	}
	switch {
	case e.Op == "num":
		return e.Num
	case e.Op == "name":
		return v.get(e.Name)
	case assigns(e.Op):
		return v.assign(e)
	case len(e.Kids) == 1:
		return ofOne(e.Op, v.value(e.Kids[0]))
	}
	first := v.value(e.Kids[0])
	switch e.Op {
	case "?":
		if first != 0 {
			return v.value(e.Kids[1])
		}
		return v.value(e.Kids[2])
	case "&&":
		return truth(first != 0 && v.value(e.Kids[1]) != 0)
	case "||":
		return truth(first != 0 || v.value(e.Kids[1]) != 0)
	}
	return ofTwo(e.Op, first, v.value(e.Kids[1]))
}

// get is the value of a name.
func (v valuer) get(name string) int64 {
	text, ok := v.store.Get(name)
	if !ok {
		return 0
	}
	n, wrong := Number(text)
	if wrong != api.OK {
		throw(wrong, 0)
	}
	return n
}

// assign sets a name, and is what it is set to.
func (v valuer) assign(e Expr) int64 {
	var n int64
	if mark := strings.TrimSuffix(e.Op, "="); mark != "" {
		first := v.get(e.Name)
		n = ofTwo(mark, first, v.value(e.Kids[0]))
	} else {
		n = v.value(e.Kids[0])
	}
	if wrong := v.store.Set(e.Name, Text(n)); wrong != api.OK {
		throw(wrong, 0)
	}
	return n
}

// ofOne is the value of a mark ahead.
func ofOne(op string, n int64) int64 {
	switch op {
	case "neg":
		return -n
	case "not":
		return truth(n == 0)
	case "com":
		return ^n
	}
	return n
}

// ofTwo is the value of a mark between two, both of which it needs.
func ofTwo(mark string, a, b int64) int64 {
	switch mark {
	case "*":
		return a * b
	case "/", "%":
		return ofDivision(mark, a, b)
	case "+":
		return a + b
	case "-":
		return a - b
	case "<<":
		return a << (b & 63)
	case ">>":
		return a >> (b & 63)
	case "<":
		return truth(a < b)
	case "<=":
		return truth(a <= b)
	case ">":
		return truth(a > b)
	case ">=":
		return truth(a >= b)
	case "==":
		return truth(a == b)
	case "!=":
		return truth(a != b)
	case "&":
		return a & b
	case "^":
		return a ^ b
	}
	return a | b
}

// ofDivision is the quotient, or what is left.
func ofDivision(mark string, a, b int64) int64 {
	if b == 0 {
		throw(api.ErrZero, 0)
	}
	if mark == "/" {
		return a / b
	}
	return a % b
}

// truth is 1 for what is so, 0 for what is not.
func truth(so bool) int64 {
	if so {
		return 1
	}
	return 0
}
