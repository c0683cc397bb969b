package trees

import (
	"strings"

	"whelk/api"
	"whelk/lexer"
	"whelk/state"
)

// judge tells which commands may be. Its tables have its own methods as values, by which it goes
// from a piece to what is in it.
type judge struct {
	commands map[int]commandRule
	pieces   map[int]pieceRule
	around   int // how many Commands stand around what it is at
}

func newJudge() *judge {
	j := &judge{commands: commandRules()}
	j.pieces = j.pieceRules()
	return j
}

// all tells whether each may be.
func all[T any](l []T, may func(T) bool) bool {
	for _, x := range l {
		if !may(x) {
			return false
		}
	}
	return true
}

func (j *judge) list(l []api.Node) bool { return all(l, j.command) }

// command asks its kind's rule for the fields and how many there are; what is in them is asked alike of all.
func (j *judge) command(n api.Node) bool {
	r, ok := j.commands[n.Kind]
	return ok && commandFields(n)&^r.fields == 0 && r.may(n) &&
		all(n.Sets, j.set) && all(n.Words, j.whole) && all(n.Redirs, j.redir) && all(n.Lists, j.list) && all(n.Cases, j.inCase)
}

func (j *judge) set(s api.Set) bool { return state.Name(s.Name) && j.word(s.Word, bare) }

func (j *judge) inCase(c api.Case) bool {
	return len(c.Words) > 0 && all(c.Words, j.whole) && j.list(c.Body)
}

// whole keeps off a word that would be no word, but a comment.
func (j *judge) whole(w api.Word) bool {
	return len(w) > 0 && !strings.HasPrefix(beginning(w), "#") && j.word(w, bare)
}

func (j *judge) redir(r api.Redir) bool {
	if r.Fd < 0 || r.Fd > 99 || r.Kind < api.In || r.Kind > api.Here || !j.whole(r.Word) {
		return false
	}
	// Within a Command there is no line behind which a text could stand.
	return r.Kind != api.Here || j.around == 0 && isText(r.Word)
}

// isText tells whether a word may be a text in place: its mark stands on a line of its own.
func isText(w api.Word) bool {
	if len(w) != 1 {
		return false
	}
	switch p := w[0]; p.Kind {
	case api.Single:
		return p.Text == "" || endsLine(p.Text)
	case api.Double:
		if len(p.Kids) == 0 {
			return true
		}
		last := p.Kids[len(p.Kids)-1]
		return last.Kind == api.Bare && endsLine(last.Text)
	}
	return false
}

func endsLine(s string) bool { return strings.HasSuffix(s, "\n") }

// beginning is the bytes with which a word begins, if they are not quoted.
func beginning(w api.Word) string {
	if len(w) == 0 || w[0].Kind != api.Bare {
		return ""
	}
	return w[0].Text
}

// word tells whether a word may be in a place.
func (j *judge) word(w api.Word, in int) bool {
	for i, p := range w {
		if i > 0 && areJoined(w[i-1], p) || !j.piece(p, in) {
			return false
		}
	}
	return true
}

func (j *judge) piece(p api.Piece, in int) bool {
	r, ok := j.pieces[p.Kind]
	return ok && in&r.places != 0 && pieceFields(p)&^r.fields == 0 && r.may(p, in)
}

func (j *judge) bare(p api.Piece, in int) bool {
	return p.Text != "" && !strings.ContainsAny(p.Text, barred(in))
}

func (j *judge) single(api.Piece, int) bool { return true }

func (j *judge) double(p api.Piece, _ int) bool { return j.word(p.Kids, inQuotes) }

func (j *judge) param(p api.Piece, _ int) bool {
	if !Parameter(p.Text) || isSign(p.Text) && p.Op != api.Value {
		return false
	}
	switch p.Op {
	case api.Value, api.Length:
		return len(p.Kids) == 0 && !p.Colon
	case api.Default, api.Assign, api.Alter, api.Need:
		return j.word(p.Kids, inHole)
	case api.Head:
		return j.cut(p, "#")
	case api.Tail:
		return j.cut(p, "%")
	case api.Heads, api.Tails:
		return j.cut(p, "")
	}
	return false
}

// cut asks that the word of an op that cuts would not be read as a part of its mark.
func (j *judge) cut(p api.Piece, mark string) bool {
	taken := mark != "" && strings.HasPrefix(beginning(p.Kids), mark)
	return !p.Colon && !taken && j.word(p.Kids, inHole)
}

func (j *judge) inCommand(p api.Piece, _ int) bool {
	j.around++
	defer func() { j.around-- }()
	return j.list(p.Body)
}

func (j *judge) math(p api.Piece, _ int) bool {
	open := 0
	for _, k := range p.Kids {
		if k.Kind != api.Bare {
			continue
		}
		for i := range len(k.Text) {
			switch k.Text[i] {
			case '(':
				open++
			case ')':
				open--
			}
			if open < 0 {
				return false
			}
		}
	}
	return open == 0 && j.word(p.Kids, inSum)
}

// isReserved tells whether a word would be read as the beginning, or the end, of something else.
func isReserved(w api.Word) bool { return len(w) == 1 && lexer.Reserved(beginning(w)) }

// isSet tells whether a word would be read as a name and its value.
func isSet(w api.Word) bool {
	name, _, ok := strings.Cut(beginning(w), "=")
	return ok && state.Name(name)
}
