package globs

import "whelk/marks"

// reader reads a marked text as a pattern.
type reader struct {
	t    []marks.Char
	path bool
	// passed is where things of groups began. A group that comes by a place which one ahead of it
	// came by ends as little as that one did: so many a [ without a ] is not read to the end each time.
	passed []bool
}

// bare is whether the bare byte b stands at a place.
func (r *reader) bare(at int, b byte) bool {
	return at < len(r.t) && r.t[at] == marks.Char{B: b}
}

// item is the item at a place, and of how many bytes it is told.
func (r *reader) item(at int) (Item, int) {
	switch {
	case r.bare(at, '?'):
		return Item{Kind: Any}, 1
	case r.bare(at, '*'):
		return Item{Kind: Star}, 1
	case r.bare(at, '\\') && at+1 < len(r.t):
		return Item{Kind: One, B: r.t[at+1].B}, 2
	case r.bare(at, '['):
		if it, n := r.group(at + 1); n > 0 {
			return it, n + 1
		}
	}
	return Item{Kind: One, B: r.t[at].B}, 1
}

// group is the Group behind a [, and of how many bytes it is told; of none, if there is no Group.
func (r *reader) group(from int) (Item, int) {
	at := from
	out := Item{Kind: Group, Not: r.bare(at, '!')}
	if out.Not {
		at++
	}
	for first := true; first || !r.bare(at, ']'); first = false {
		if !r.enter(at) {
			return Item{}, 0
		}
		l, n := r.thing(at)
		if n == 0 {
			return Item{}, 0
		}
		out.Ranges = append(out.Ranges, l...)
		at += n
	}
	return out, at + 1 - from
}

// enter is whether a thing at a place may be followed by the end of its group.
func (r *reader) enter(at int) bool {
	if at >= len(r.t) || r.passed[at] {
		return false
	}
	r.passed[at] = true
	return true
}

// thing is the ranges of the thing at a place, and of how many bytes it is told; of none, if no Group may have it.
func (r *reader) thing(at int) ([][2]byte, int) {
	if c := r.className(at); c != "" {
		l := class(c)
		if l == nil {
			return nil, 0
		}
		return l, len("[:") + len(c) + len(":]")
	}
	n := 1
	if r.bare(at+1, '-') && at+2 < len(r.t) && !r.bare(at+2, ']') {
		n = 3
	}
	first, last := r.t[at].B, r.t[at+n-1].B
	if r.path && (first == '/' || last == '/') {
		return nil, 0
	}
	if first > last {
		return nil, n
	}
	return [][2]byte{{first, last}}, n
}

// className is the name of the class at a place, be there such a class or not; empty, if none is told there.
func (r *reader) className(at int) string {
	if !r.bare(at, '[') || !r.bare(at+1, ':') {
		return ""
	}
	from := at + 2
	to := from
	for to < len(r.t) && !r.t[to].Q && 'a' <= r.t[to].B && r.t[to].B <= 'z' {
		to++
	}
	if !r.bare(to, ':') || !r.bare(to+1, ']') {
		return ""
	}
	return marks.Plain(r.t[from:to])
}

// class is the ranges of the class of that name; nil, if there is none.
func class(name string) [][2]byte {
	switch name {
	case "alnum":
		return [][2]byte{{'0', '9'}, {'A', 'Z'}, {'a', 'z'}}
	case "alpha":
		return [][2]byte{{'A', 'Z'}, {'a', 'z'}}
	case "blank":
		return [][2]byte{{9, 9}, {32, 32}}
	case "space":
		return [][2]byte{{9, 13}, {32, 32}}
	case "cntrl":
		return [][2]byte{{0, 31}, {127, 127}}
	case "print":
		return [][2]byte{{32, 126}}
	case "graph":
		return [][2]byte{{33, 126}}
	case "digit":
		return [][2]byte{{'0', '9'}}
	case "xdigit":
		return [][2]byte{{'0', '9'}, {'A', 'F'}, {'a', 'f'}}
	case "lower":
		return [][2]byte{{'a', 'z'}}
	case "upper":
		return [][2]byte{{'A', 'Z'}}
	case "punct":
		return [][2]byte{{33, 47}, {58, 64}, {91, 96}, {123, 126}}
	}
	return nil
}
