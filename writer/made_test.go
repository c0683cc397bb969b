package writer_test

import (
	"testing"

	"whelk/api"
	"whelk/reader"
	"whelk/trees"
	"whelk/writer"
)

func bare(s string) api.Piece { return api.Piece{Kind: api.Bare, Text: s} }

func single(s string) api.Piece { return api.Piece{Kind: api.Single, Text: s} }

func double(l ...api.Piece) api.Piece { return api.Piece{Kind: api.Double, Kids: l} }

func param(name string, op int, l ...api.Piece) api.Piece {
	return api.Piece{Kind: api.Param, Text: name, Op: op, Kids: l}
}

func colon(p api.Piece) api.Piece {
	p.Colon = true
	return p
}

func math(l ...api.Piece) api.Piece { return api.Piece{Kind: api.Math, Kids: l} }

func command(l ...api.Node) api.Piece { return api.Piece{Kind: api.Command, Body: l} }

func words(l ...string) []api.Word {
	var out []api.Word
	for _, s := range l {
		out = append(out, api.Word{bare(s)})
	}
	return out
}

func simple(l ...string) api.Node { return api.Node{Kind: api.Simple, Words: words(l...)} }

// say is a Simple of one word.
func say(l ...api.Piece) api.Node { return api.Node{Kind: api.Simple, Words: []api.Word{l}} }

func list(l ...api.Node) []api.Node { return l }

// of is a command of lists.
func of(kind int, l ...[]api.Node) api.Node { return api.Node{Kind: kind, Lists: l} }

// pair is a command of one command each.
func pair(kind int, l ...api.Node) api.Node {
	n := api.Node{Kind: kind}
	for _, x := range l {
		n.Lists = append(n.Lists, list(x))
	}
	return n
}

func bang(n api.Node) api.Node {
	n.Bang = true
	return n
}

// to is a command with redirections more.
func to(n api.Node, l ...api.Redir) api.Node {
	n.Redirs = append(append([]api.Redir{}, n.Redirs...), l...)
	return n
}

func redir(fd, kind int, l ...api.Piece) api.Redir { return api.Redir{Fd: fd, Kind: kind, Word: l} }

func here(fd int, p api.Piece) api.Redir { return redir(fd, api.Here, p) }

// cat is a Simple with texts in place.
func cat(l ...api.Piece) api.Node {
	n := simple("cat")
	for _, p := range l {
		n = to(n, here(0, p))
	}
	return n
}

func each(name string, given bool, l []api.Word, body ...api.Node) api.Node {
	return api.Node{Kind: api.For, Name: name, Given: given, Words: l, Lists: [][]api.Node{body}}
}

func choice(w api.Word, cases ...api.Case) api.Node {
	return api.Node{Kind: api.Switch, Words: []api.Word{w}, Cases: cases}
}

func inCase(l []api.Word, body ...api.Node) api.Case { return api.Case{Words: l, Body: body} }

func function(name string, n api.Node) api.Node {
	return api.Node{Kind: api.Func, Name: name, Lists: [][]api.Node{{n}}}
}

// writes asks that commands are written so, and that what is written is read as the same ones.
func writes(t *testing.T, want string, l ...api.Node) {
	t.Helper()
	s, e := writer.Script(l)
	if s != want || e != api.OK {
		t.Errorf("%q, %v, not %q", s, e, want)
		return
	}
	readAgain(t, s, l)
}

func readAgain(t *testing.T, s string, l []api.Node) {
	t.Helper()
	if back, place, e := reader.Program(s, nil); !trees.Same(back, l) || e != api.OK {
		t.Errorf("%q is read as another one: %d, %v", s, place, e)
	}
}

// spells asks that a word is written so, and that what is written is read as the same one.
func spells(t *testing.T, want string, w ...api.Piece) {
	t.Helper()
	s, e := writer.Word(w)
	if s != want || e != api.OK {
		t.Errorf("%q, %v, not %q", s, e, want)
		return
	}
	if back, place, e := reader.Word(s); !trees.Words(back, w) || e != api.OK {
		t.Errorf("%q is read as another one: %d, %v", s, place, e)
	}
}

// refuses asks that commands are not written.
func refuses(t *testing.T, want api.Errno, what any, l ...api.Node) {
	t.Helper()
	if s, e := writer.Script(l); s != "" || e != want {
		t.Errorf("%v: %.100q, %v, not %v", what, s, e, want)
	}
}

func refusesWord(t *testing.T, want api.Errno, what any, w ...api.Piece) {
	t.Helper()
	if s, e := writer.Word(w); s != "" || e != want {
		t.Errorf("%v: %.100q, %v, not %v", what, s, e, want)
	}
}
