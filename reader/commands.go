package reader

import (
	"strings"

	"whelk/api"
	"whelk/lexer"
	"whelk/state"
)

// command reads a command that is no Pipe, And, Or or Back.
func (r *reader) command() api.Node {
	switch t := r.peek(); {
	case t.isReserved() || t.isOp("("):
		return r.compound()
	case r.isFunc():
		return r.function()
	}
	return r.simple()
}

// compound reads a compound command and its redirections.
func (r *reader) compound() api.Node {
	read := r.reading(r.peek())
	if read == nil {
		r.stuck()
	}
	n := nest(r.tally, r.next().place(), read)
	for isRedirection(r.peek()) {
		n.Redirs = append(n.Redirs, r.redirection())
	}
	return n
}

// reading is what reads a compound command behind the thing with which it begins; nil, if none begins with it.
func (r *reader) reading(t thing) func() api.Node {
	if t.isOp("(") {
		return r.sub
	}
	if t.Kind != lexer.Word {
		return nil
	}
	switch t.Text {
	case "{":
		return r.group
	case "if":
		return r.conditions
	case "while":
		return func() api.Node { return r.loop(api.While) }
	case "until":
		return func() api.Node { return r.loop(api.Until) }
	case "for":
		return r.each
	case "case":
		return r.choice
	}
	return nil
}

func (r *reader) function() api.Node {
	name := r.next().Text
	r.want("(")
	r.want(")")
	r.lineFeeds()
	return api.Node{Kind: api.Func, Name: name, Lists: [][]api.Node{{r.compound()}}}
}

// simple reads a Simple up to what cannot be of it.
func (r *reader) simple() api.Node {
	n := api.Node{Kind: api.Simple}
	for {
		t := r.peek()
		first := len(n.Words) == 0
		switch {
		case isRedirection(t):
			n.Redirs = append(n.Redirs, r.redirection())
		case first && isSet(t):
			n.Sets = append(n.Sets, r.set())
		case (first || r.look) && r.unalias():
			// What stands in its place is read next.
		case t.Kind != lexer.Word || first && len(n.Sets) == 0 && t.isReserved():
			if first && len(n.Sets)+len(n.Redirs) == 0 {
				r.stuck()
			}
			return n
		default:
			n.Words = append(n.Words, r.word())
		}
	}
}

func (r *reader) set() api.Set {
	t := r.next()
	name, _, _ := strings.Cut(t.Text, "=")
	return api.Set{Name: name, Word: r.pieces(t.src, t.in, t.At+len(name)+1, t.Stop, bare)}
}

// word reads the word that comes next.
func (r *reader) word() api.Word {
	t := r.wordThing()
	return r.pieces(t.src, t.in, t.At, t.Stop, bare)
}

// wordThing takes a word that is not read yet.
func (r *reader) wordThing() thing {
	if r.peek().Kind != lexer.Word {
		r.stuck()
	}
	return r.next()
}

// words reads all words that come next, be they reserved.
func (r *reader) words() []api.Word {
	var l []api.Word
	for r.peek().Kind == lexer.Word {
		l = append(l, r.word())
	}
	return l
}

func (r *reader) sub() api.Node {
	l := r.list()
	r.want(")")
	return api.Node{Kind: api.Sub, Lists: [][]api.Node{l}}
}

func (r *reader) group() api.Node {
	l := r.list()
	r.wantWord("}")
	return api.Node{Kind: api.Group, Lists: [][]api.Node{l}}
}

func (r *reader) conditions() api.Node {
	n := api.Node{Kind: api.If}
	for pairs := true; pairs; pairs = r.takesWord("elif") {
		n.Lists = append(n.Lists, r.list())
		r.wantWord("then")
		n.Lists = append(n.Lists, r.list())
	}
	if r.takesWord("else") {
		n.Lists = append(n.Lists, r.list())
	}
	r.wantWord("fi")
	return n
}

func (r *reader) loop(kind int) api.Node {
	condition := r.list()
	return api.Node{Kind: kind, Lists: [][]api.Node{condition, r.turn()}}
}

// turn reads what a loop does.
func (r *reader) turn() []api.Node {
	r.wantWord("do")
	l := r.list()
	r.wantWord("done")
	return l
}

func (r *reader) each() api.Node {
	n := api.Node{Kind: api.For, Name: r.peek().Text}
	if !state.Name(n.Name) {
		r.stuck()
	}
	r.next()
	parted := r.lineFeeds()
	if r.takesWord("in") {
		n.Given, parted = true, false
		n.Words = r.words()
	}
	// Line feeds without an in are those ahead of the do: no ; may stand behind them.
	if !parted {
		r.takes(";")
		r.lineFeeds()
	}
	n.Lists = [][]api.Node{r.turn()}
	return n
}

func (r *reader) choice() api.Node {
	n := api.Node{Kind: api.Switch, Words: []api.Word{r.word()}}
	r.lineFeeds()
	r.wantWord("in")
	r.lineFeeds()
	for !r.takesWord("esac") {
		n.Cases = append(n.Cases, r.inCase())
		if !r.takes(";;") {
			r.wantWord("esac")
			break
		}
		r.lineFeeds()
	}
	return n
}

// inCase reads one case, but not the ;; behind it.
func (r *reader) inCase() api.Case {
	r.takes("(")
	c := api.Case{Words: []api.Word{r.word()}}
	for r.takes("|") {
		c.Words = append(c.Words, r.word())
	}
	r.want(")")
	r.begin()
	if t := r.peek(); !t.isOp(";;") && !t.isWord("esac") {
		c.Body = r.list()
	}
	return c
}
