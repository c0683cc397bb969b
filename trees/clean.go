package trees

import (
	"strings"

	"whelk/api"
)

func clean(w api.Word) api.Word {
	var out api.Word
	for at := 0; at < len(w); {
		if isNothing(w[at]) {
			at++
			continue
		}
		p, stop := joined(w, at)
		p.Kids = clean(p.Kids)
		p.Body = copied(p.Body, copyNode)
		out = append(out, p)
		at = stop
	}
	return out
}

// joined is a piece with the bytes of the neighbours that go into it, and the place behind them.
func joined(w api.Word, at int) (api.Piece, int) {
	p := w[at]
	texts := []string{p.Text}
	stop := at + 1
	for stop < len(w) && (isNothing(w[stop]) || areJoined(p, w[stop])) {
		texts = append(texts, w[stop].Text)
		stop++
	}
	p.Text = strings.Join(texts, "")
	return p, stop
}

func isNothing(p api.Piece) bool { return p.Kind == api.Bare && p.Text == "" }

// areJoined tells whether two neighbours say what one of them would say.
func areJoined(a, b api.Piece) bool {
	return a.Kind == b.Kind && (a.Kind == api.Bare || a.Kind == api.Single)
}

// copied is a list that shares nothing with l.
func copied[T any](l []T, each func(T) T) []T {
	var out []T
	for _, x := range l {
		out = append(out, each(x))
	}
	return out
}

func copyWord(w api.Word) api.Word { return copied(w, copyPiece) }

func copyList(l []api.Node) []api.Node { return copied(l, copyNode) }

func copyPiece(p api.Piece) api.Piece {
	p.Kids = copyWord(p.Kids)
	p.Body = copyList(p.Body)
	return p
}

func copySet(s api.Set) api.Set {
	s.Word = copyWord(s.Word)
	return s
}

func copyRedir(r api.Redir) api.Redir {
	r.Word = copyWord(r.Word)
	return r
}

func copyCase(c api.Case) api.Case {
	c.Words = copied(c.Words, copyWord)
	c.Body = copyList(c.Body)
	return c
}

func copyNode(n api.Node) api.Node {
	n.Sets = copied(n.Sets, copySet)
	n.Words = copied(n.Words, copyWord)
	n.Redirs = copied(n.Redirs, copyRedir)
	n.Lists = copied(n.Lists, copyList)
	n.Cases = copied(n.Cases, copyCase)
	return n
}
