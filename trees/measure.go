package trees

import "whelk/api"

// measure counts commands and pieces, and how many of them are in one another.
type measure struct {
	size, deep int
	now        int // those around what it is at
	bound      int // no deeper than that it looks
}

func measured(l []api.Node, bound int) *measure {
	m := &measure{bound: bound}
	m.list(l)
	return m
}

// each counts one thing by one, with what is in it.
func each[T any](m *measure, l []T, within func(*T)) {
	if m.now == m.bound || len(l) == 0 {
		return
	}
	m.now++
	m.deep = max(m.deep, m.now)
	for i := range l {
		m.size++
		within(&l[i])
	}
	m.now--
}

func (m *measure) list(l []api.Node) { each(m, l, m.inNode) }

func (m *measure) word(w api.Word) { each(m, w, m.inPiece) }

func (m *measure) words(l []api.Word) {
	for _, w := range l {
		m.word(w)
	}
}

func (m *measure) inPiece(p *api.Piece) {
	m.word(p.Kids)
	m.list(p.Body)
}

func (m *measure) inNode(n *api.Node) {
	for _, s := range n.Sets {
		m.word(s.Word)
	}
	m.words(n.Words)
	for _, r := range n.Redirs {
		m.word(r.Word)
	}
	for _, l := range n.Lists {
		m.list(l)
	}
	for _, c := range n.Cases {
		m.words(c.Words)
		m.list(c.Body)
	}
}
