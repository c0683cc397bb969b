package reader

import (
	"whelk/api"
	"whelk/lexer"
	"whelk/trees"
)

// lines reads all lines up to the end.
func (r *reader) lines() []api.Node {
	var all []api.Node
	for {
		l := r.line()
		if len(l) == 0 {
			return all
		}
		all = append(all, l...)
	}
}

// line reads the commands of one line; none at the end.
func (r *reader) line() []api.Node {
	r.lineFeeds()
	first := r.peek()
	if first.Kind == lexer.End {
		return nil
	}
	// A line within a Command is a part of the line around it: if its aliases were counted anew, reading might never end.
	if !r.inner {
		r.tally.aliases = 0
	}
	var l []api.Node
	for ended := false; !ended; {
		n, parted := r.one()
		l = append(l, n)
		ended = r.endsLine(parted)
	}
	if trees.Deep(l) > api.MaxDepth {
		throw(first.place(), api.ErrDeep)
	}
	return l
}

// endsLine takes the end of a line, if it comes next; else another command comes.
func (r *reader) endsLine(parted bool) bool {
	if parted {
		r.beginHere()
	}
	switch r.peek().Kind {
	case lexer.End:
		if len(r.texts) > 0 {
			r.more()
		}
		return true
	case lexer.Newline:
		r.next()
		return true
	}
	if !parted {
		r.stuck()
	}
	return false
}

// list reads commands up to what ends them, which is left.
func (r *reader) list() []api.Node {
	var l []api.Node
	r.begin()
	for {
		n, parted := r.one()
		l = append(l, n)
		if r.peek().Kind == lexer.Newline {
			parted = true
		}
		if !parted {
			return l
		}
		r.begin()
		if endsList(r.peek()) {
			return l
		}
	}
}

// endsList tells whether no command can begin with a thing, but a list end ahead of it.
func endsList(t thing) bool {
	switch t.Text {
	case ")", ";;":
		return t.Kind == lexer.Op
	case "then", "elif", "else", "fi", "do", "done", "esac", "}":
		return t.Kind == lexer.Word
	}
	return false
}

// one reads one command, and tells whether a ; or & stood behind it.
func (r *reader) one() (api.Node, bool) {
	n := r.pipe()
	for {
		kind := joint(r.peek())
		if kind == 0 {
			break
		}
		r.next()
		r.begin()
		n = api.Node{Kind: kind, Lists: [][]api.Node{{n}, {r.pipe()}}}
	}
	if r.takes("&") {
		return api.Node{Kind: api.Back, Lists: [][]api.Node{{n}}}, true
	}
	return n, r.takes(";")
}

// joint is the kind of the command that an op makes of those around it; 0, if it makes none.
func joint(t thing) int {
	switch {
	case t.isOp("&&"):
		return api.And
	case t.isOp("||"):
		return api.Or
	}
	return 0
}

// pipe reads a command, or several that hand on what they write.
func (r *reader) pipe() api.Node {
	r.beginHere()
	bang := r.takesWord("!")
	r.beginHere()
	lists := [][]api.Node{{r.command()}}
	for r.takes("|") {
		r.begin()
		lists = append(lists, []api.Node{r.command()})
	}
	if !bang && len(lists) == 1 {
		return lists[0][0]
	}
	return api.Node{Kind: api.Pipe, Bang: bang, Lists: lists}
}
