package writer

import (
	"strconv"

	"whelk/api"
	"whelk/lexer"
)

// redirMarks are those of In, Out, More, Both, Dup and Here.
var redirMarks = [...]string{"<", ">", ">>", "<>", ">&", "<<"}

func (w *writer) redir(r api.Redir) {
	w.put(strconv.Itoa(r.Fd), redirMarks[r.Kind-api.In])
	if r.Kind == api.Here {
		w.here(r.Word[0])
		return
	}
	w.word(r.Word, plain)
}

// here writes the mark of a text in place: the text waits for the next line feed.
func (w *writer) here(p api.Piece) {
	text, quote := p.Text, "'"
	if p.Kind == api.Double {
		text, quote = written(func(in *writer) { in.word(p.Kids, inText) }), ""
	}
	mark := freeMark(text)
	w.put(quote, mark, quote)
	w.texts = append(w.texts, text, mark, "\n")
}

// freeMark is the shortest mark at which a text would not end too early. (One that is too great has
// any: it is not written.)
func freeMark(text string) string {
	mark := "E"
	for {
		if _, _, e := lexer.Doc(text, 0, mark, false); e != api.OK {
			return mark
		}
		mark += "E"
	}
}
