package reader

import (
	"strconv"
	"strings"

	"whelk/api"
	"whelk/lexer"
)

// mostDigits is how many digits a redirection's number may have.
const mostDigits = 2

func isRedirection(t thing) bool {
	return t.Kind == lexer.Number || t.Kind == lexer.Op && redirKind(t.Text) != 0
}

// redirKind is the kind of redirection that an op makes; 0, if it makes none.
func redirKind(op string) int {
	switch op {
	case "<":
		return api.In
	case ">", ">|":
		return api.Out
	case ">>":
		return api.More
	case "<>":
		return api.Both
	case "<&", ">&":
		return api.Dup
	case "<<", "<<-":
		return api.Here
	}
	return 0
}

func (r *reader) redirection() api.Redir {
	fd := r.number()
	op := r.peek()
	out := api.Redir{Fd: fd, Kind: redirKind(op.Text)}
	// Behind the lines of a Command stands what is around it, and no text.
	if out.Kind == api.Here && r.inner {
		r.stuck()
	}
	r.next()
	if fd < 0 {
		out.Fd = usualFd(op.Text)
	}
	if out.Kind == api.Here {
		out.Word = r.textLater(r.wordThing(), op.Text == "<<-")
	} else {
		out.Word = r.word()
	}
	return out
}

// number takes the number ahead of a redirection; without one it is -1.
func (r *reader) number() int {
	t := r.peek()
	if t.Kind != lexer.Number {
		return -1
	}
	if len(t.Text) > mostDigits {
		r.stuck()
	}
	r.next()
	n, _ := strconv.Atoi(t.Text)
	return n
}

func usualFd(op string) int {
	if strings.HasPrefix(op, "<") {
		return 0
	}
	return 1
}

// textLater is the word of a text in place: its one piece comes with the lines behind the next line feed.
func (r *reader) textLater(t thing, tabs bool) api.Word {
	w := make(api.Word, 1)
	mark, quoted := unquoted(t.Text)
	r.texts = append(r.texts, func() { w[0] = r.text(mark, quoted, tabs) })
	return w
}

// text reads the lines of a text in place, and its mark.
func (r *reader) text(mark string, quoted, tabs bool) api.Piece {
	text, stop, e := lexer.Doc(r.src.text, r.at, mark, tabs)
	if e != api.OK {
		r.more()
	}
	src := r.src.within(text, r.at)
	r.at = stop
	if quoted {
		return api.Piece{Kind: api.Single, Text: text}
	}
	return api.Piece{Kind: api.Double, Kids: r.pieces(src, r.in, 0, len(text), inText)}
}
