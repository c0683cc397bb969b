package writer

import (
	"strings"

	"whelk/api"
)

// Places of pieces: those in a ${} and in an expression are written as bare ones are.
const (
	plain = iota
	inQuotes
	inText
)

// specials are the bytes that would mean something else in a place, if no \ stood ahead of them.
var specials = [...]string{"", "$`\\\"", "$`\\"}

// opMarks stand each at the number of its op; Value and Length have none behind the name.
var opMarks = [...]string{"", "", "-", "=", "+", "?", "#", "##", "%", "%%"}

func (w *writer) word(l api.Word, place int) {
	for _, p := range l {
		w.piece(p, place)
	}
}

func (w *writer) piece(p api.Piece, place int) {
	switch p.Kind {
	case api.Bare:
		w.put(escaped(p.Text, specials[place]))
	case api.Single:
		w.put("'", strings.ReplaceAll(p.Text, "'", `'\''`), "'")
	case api.Double:
		w.put(`"`)
		w.word(p.Kids, inQuotes)
		w.put(`"`)
	case api.Param:
		w.put("${", when(p.Op == api.Length, "#"), p.Text, when(p.Colon, ":"), opMarks[p.Op])
		w.word(p.Kids, plain)
		w.put("}")
	case api.Command:
		// Behind its line feeds none of the texts stands that wait around it.
		w.put("$( ", written(func(in *writer) { in.list(p.Body) }), ")")
	case api.Math:
		w.put("$((")
		w.word(p.Kids, plain)
		w.put("))")
	}
}

// escaped is a text with a \ ahead of each of its bytes that are special.
func escaped(text, special string) string {
	var out strings.Builder
	for i := range len(text) {
		if strings.IndexByte(special, text[i]) >= 0 {
			out.WriteByte('\\')
		}
		out.WriteByte(text[i])
	}
	return out.String()
}
