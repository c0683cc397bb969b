package trees

import (
	"slices"

	"whelk/api"
)

// same takes no list and an empty one as the same.
func same[T any](a, b []T, each func(a, b T) bool) bool { return slices.EqualFunc(a, b, each) }

func sameNode(a, b api.Node) bool {
	return a.Kind == b.Kind && a.Bang == b.Bang && a.Name == b.Name && a.Given == b.Given &&
		same(a.Sets, b.Sets, sameSet) && same(a.Words, b.Words, Words) && same(a.Redirs, b.Redirs, sameRedir) &&
		same(a.Lists, b.Lists, Same) && same(a.Cases, b.Cases, sameCase)
}

func samePiece(a, b api.Piece) bool {
	return a.Kind == b.Kind && a.Text == b.Text && a.Op == b.Op && a.Colon == b.Colon &&
		Words(a.Kids, b.Kids) && Same(a.Body, b.Body)
}

func sameSet(a, b api.Set) bool { return a.Name == b.Name && Words(a.Word, b.Word) }

func sameRedir(a, b api.Redir) bool {
	return a.Fd == b.Fd && a.Kind == b.Kind && Words(a.Word, b.Word)
}

func sameCase(a, b api.Case) bool { return same(a.Words, b.Words, Words) && Same(a.Body, b.Body) }
