package reader_test

import (
	"strconv"
	"strings"
	"testing"

	"whelk/api"
	"whelk/reader"
)

// opMarks are the ops of a parameter, each at its number; Value and Length have none.
var opMarks = []string{"", "", "-", "=", "+", "?", "#", "##", "%", "%%"}

var redirMarks = []string{"", "<", ">", ">>", "<>", ">&", "<<"}

var nodeNames = []string{"", "simple", "pipe", "and", "or", "back", "group", "sub", "if", "while", "until", "for", "switch", "func"}

// toldWord tells each piece by marks of its own: bytes as they stand, 'single', "double", ${parameter}, $(command), $((math)).
func toldWord(w api.Word) string {
	var out strings.Builder
	for i, p := range w {
		if i > 0 {
			out.WriteString(".")
		}
		kids := toldWord(p.Kids)
		switch p.Kind {
		case api.Bare:
			out.WriteString(p.Text)
		case api.Single:
			out.WriteString("'" + p.Text + "'")
		case api.Double:
			out.WriteString(`"` + kids + `"`)
		case api.Param:
			out.WriteString("${")
			if p.Op == api.Length {
				out.WriteString("#")
			}
			out.WriteString(p.Text)
			if p.Colon {
				out.WriteString(":")
			}
			out.WriteString(opMarks[p.Op] + kids + "}")
		case api.Command:
			out.WriteString("$(" + told(p.Body) + ")")
		case api.Math:
			out.WriteString("$((" + kids + "))")
		default:
			out.WriteString("piece " + strconv.Itoa(p.Kind))
		}
	}
	return out.String()
}

// told tells commands, `; ` between each two: a Simple in [ ], the others by their kinds' names, with their lists in ( ) and what is of them alone ahead.
func told(l []api.Node) string {
	var out []string
	for _, n := range l {
		out = append(out, toldNode(n))
	}
	return strings.Join(out, "; ")
}

func toldWords(l []api.Word) []string {
	var out []string
	for _, w := range l {
		out = append(out, toldWord(w))
	}
	return out
}

func toldNode(n api.Node) string {
	var parts []string
	for _, s := range n.Sets {
		parts = append(parts, s.Name+"="+toldWord(s.Word))
	}
	parts = append(parts, toldWords(n.Words)...)
	for _, r := range n.Redirs {
		parts = append(parts, strconv.Itoa(r.Fd)+redirMarks[r.Kind]+toldWord(r.Word))
	}
	inner := strings.Join(parts, " ")
	if n.Kind == api.Simple {
		return "[" + inner + "]"
	}
	out := nodeNames[n.Kind]
	if n.Bang {
		out = "!" + out
	}
	if n.Name != "" {
		out += " " + n.Name
	}
	if n.Given {
		out += " in"
	}
	if inner != "" {
		out += " " + inner
	}
	for _, l := range n.Lists {
		out += "(" + told(l) + ")"
	}
	for _, c := range n.Cases {
		out += "{" + strings.Join(toldWords(c.Words), "|") + ": " + told(c.Body) + "}"
	}
	return out
}

// aliases are those of a map.
func aliases(m map[string]string) reader.Alias {
	return func(name string) (string, bool) {
		text, ok := m[name]
		return text, ok
	}
}

// reads asks that each script is one line that is told so.
func reads(t *testing.T, alias reader.Alias, scripts [][2]string) {
	t.Helper()
	for _, c := range scripts {
		l, at, place, e := reader.Line(c[0], 0, alias)
		if told(l) != c[1] || at != len(c[0]) || place != 0 || e != api.OK {
			t.Errorf("%q: %s, %d, %d, %v, not %s", c[0], told(l), at, place, e, c[1])
		}
	}
}

// fault is a script, and what is wrong where.
type fault struct {
	s     string
	place int
	e     api.Errno
}

// failsWith asks that each script is wrong there, and nothing else is answered.
func failsWith(t *testing.T, alias reader.Alias, faults []fault) {
	t.Helper()
	for _, c := range faults {
		l, at, place, e := reader.Line(c.s, 0, alias)
		if len(l) != 0 || at != 0 || place != c.place || e != c.e {
			t.Errorf("%q: %s, %d, %d, %v, not %d, %v", c.s, told(l), at, place, e, c.place, c.e)
		}
	}
}

// lacks asks that each script needs more.
func lacks(t *testing.T, scripts ...string) {
	t.Helper()
	for _, s := range scripts {
		failsWith(t, nil, []fault{{s, len(s), api.ErrMore}})
	}
}

// wrongAt asks that each text is a script that is wrong where a ^ stands in it; the ^ is not of it.
func wrongAt(t *testing.T, alias reader.Alias, marked ...string) {
	t.Helper()
	for _, m := range marked {
		at := strings.Index(m, "^")
		if at < 0 {
			t.Fatalf("%q has no ^", m)
		}
		failsWith(t, alias, []fault{{m[:at] + m[at+1:], at, api.ErrSyntax}})
	}
}
