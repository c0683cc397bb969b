package writer_test

import (
	"slices"
	"strconv"
	"strings"

	"whelk/api"
)

// A second writing of commands: they become parts, one behind the other; when all are there, each line
// feed is followed by the texts of those marks that stand ahead of it.

// part is some bytes, or a line feed of the commands, or the mark of a text.
type part struct {
	bytes string
	ends  bool   // a line feed
	text  string // of a mark what is told behind the next line feed
}

func bytes(l ...string) []part { return []part{{bytes: strings.Join(l, "")}} }

func lineFeed() []part { return []part{{ends: true}} }

// line is bytes and a line feed.
func line(l ...string) []part { return append(bytes(l...), lineFeed()...) }

func row(l ...[]part) []part { return slices.Concat(l...) }

// joined is rows with bytes between each two.
func joined(mark string, l [][]part) []part {
	var out []part
	for i, x := range l {
		if i > 0 {
			out = append(out, part{bytes: mark})
		}
		out = append(out, x...)
	}
	return out
}

// laid is the bytes of all parts.
func laid(l []part) string {
	var out, texts strings.Builder
	for _, p := range l {
		if !p.ends {
			out.WriteString(p.bytes)
			texts.WriteString(p.text)
			continue
		}
		out.WriteString("\n" + texts.String())
		texts.Reset()
	}
	return out.String()
}

// modelScript is a list's text.
func modelScript(l []api.Node) string { return laid(modelList(l)) }

func modelList(l []api.Node) []part {
	var out []part
	for _, n := range l {
		out = append(out, row(modelNode(n), lineFeed())...)
	}
	return out
}

func modelNode(n api.Node) []part {
	var lists, things, redirs [][]part
	for _, l := range n.Lists {
		lists = append(lists, modelList(l))
	}
	for _, s := range n.Sets {
		things = append(things, bytes(s.Name, "=", modelWord(s.Word)))
	}
	for _, w := range n.Words {
		things = append(things, bytes(modelWord(w)))
	}
	for _, r := range n.Redirs {
		redirs = append(redirs, modelRedir(r))
	}
	// The command of a list of one, without the line feed behind it.
	only := func(i int) []part { return lists[i][:len(lists[i])-1] }
	var out []part
	switch n.Kind {
	case api.Simple:
		return joined(" ", append(things, redirs...))
	case api.Pipe:
		for i := range lists {
			lists[i] = only(i)
		}
		if n.Bang {
			out = bytes("! ")
		}
		return row(out, joined(" | ", lists))
	case api.And:
		return row(only(0), bytes(" && "), only(1))
	case api.Or:
		return row(only(0), bytes(" || "), only(1))
	case api.Back:
		return row(only(0), bytes(" &"))
	case api.Func:
		return row(line(n.Name, "()"), only(0))
	case api.Group:
		out = row(line("{"), lists[0], bytes("}"))
	case api.Sub:
		out = row(line("("), lists[0], bytes(")"))
	case api.If:
		for i, l := range lists {
			word := "then"
			if i%2 == 0 {
				word = "elif"
			}
			if i == 0 {
				word = "if"
			} else if i%2 == 0 && i == len(lists)-1 {
				word = "else"
			}
			out = row(out, line(word), l)
		}
		out = row(out, bytes("fi"))
	case api.While:
		out = row(line("while"), lists[0], line("do"), lists[1], bytes("done"))
	case api.Until:
		out = row(line("until"), lists[0], line("do"), lists[1], bytes("done"))
	case api.For:
		head := [][]part{bytes("for ", n.Name)}
		if n.Given {
			head = append(head, bytes("in"))
		}
		out = row(joined(" ", append(head, things...)), lineFeed(), line("do"), lists[0], bytes("done"))
	case api.Switch:
		out = row(bytes("case "), things[0], line(" in"))
		for _, c := range n.Cases {
			var words [][]part
			for _, w := range c.Words {
				words = append(words, bytes(modelWord(w)))
			}
			out = row(out, bytes("("), joined("|", words), line(")"), modelList(c.Body), line(";;"))
		}
		out = row(out, bytes("esac"))
	}
	return joined(" ", append([][]part{out}, redirs...))
}

func modelRedir(r api.Redir) []part {
	fd := strconv.Itoa(r.Fd)
	switch r.Kind {
	case api.In:
		return bytes(fd, "<", modelWord(r.Word))
	case api.Out:
		return bytes(fd, ">", modelWord(r.Word))
	case api.More:
		return bytes(fd, ">>", modelWord(r.Word))
	case api.Both:
		return bytes(fd, "<>", modelWord(r.Word))
	case api.Dup:
		return bytes(fd, ">&", modelWord(r.Word))
	}
	p := r.Word[0]
	text := p.Text + modelWithin(p.Kids, false)
	mark := "E"
	for slices.Contains(strings.Split(text, "\n"), mark) {
		mark += "E"
	}
	told := part{bytes: fd + "<<" + mark, text: text + mark + "\n"}
	if p.Kind == api.Single {
		told.bytes = fd + "<<'" + mark + "'"
	}
	return []part{told}
}

func modelWord(w api.Word) string {
	var out string
	for _, p := range w {
		out += modelPiece(p)
	}
	return out
}

// modelWithin is what stands in quotes, or in a text in place.
func modelWithin(w api.Word, inQuotes bool) string {
	var out string
	for _, p := range w {
		if p.Kind == api.Bare {
			p.Text = escapes(p.Text, inQuotes)
		}
		out += modelPiece(p)
	}
	return out
}

func modelPiece(p api.Piece) string {
	kids := modelWord(p.Kids)
	switch p.Kind {
	case api.Bare:
		return p.Text
	case api.Single:
		return "'" + strings.Join(strings.Split(p.Text, "'"), "'\\''") + "'"
	case api.Double:
		return "\"" + modelWithin(p.Kids, true) + "\""
	case api.Command:
		return "$( " + modelScript(p.Body) + ")"
	case api.Math:
		return "$((" + kids + "))"
	}
	name := p.Text
	if p.Colon {
		name += ":"
	}
	switch p.Op {
	case api.Length:
		return "${#" + name + "}"
	case api.Default:
		name += "-"
	case api.Assign:
		name += "="
	case api.Alter:
		name += "+"
	case api.Need:
		name += "?"
	case api.Head:
		name += "#"
	case api.Heads:
		name += "##"
	case api.Tail:
		name += "%"
	case api.Tails:
		name += "%%"
	}
	return "${" + name + kids + "}"
}
