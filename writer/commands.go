package writer

import "whelk/api"

// joints stand between each two commands of a Pipe, an And and an Or.
var joints = [...]string{" | ", " && ", " || "}

func (w *writer) list(l []api.Node) {
	for _, n := range l {
		w.command(n)
		w.lineFeed()
	}
}

func (w *writer) command(n api.Node) {
	switch n.Kind {
	case api.Simple:
		w.simple(n)
	case api.Pipe, api.And, api.Or:
		w.joined(n)
	case api.Back:
		w.command(n.Lists[0][0])
		w.put(" &")
	case api.Func:
		w.put(n.Name, "()")
		w.lineFeed()
		w.command(n.Lists[0][0])
	default:
		w.compound(n)
		for _, r := range n.Redirs {
			w.put(" ")
			w.redir(r)
		}
	}
}

func (w *writer) simple(n api.Node) {
	blank := between(" ")
	for _, s := range n.Sets {
		w.put(blank(), s.Name, "=")
		w.word(s.Word, plain)
	}
	for _, x := range n.Words {
		w.put(blank())
		w.word(x, plain)
	}
	for _, r := range n.Redirs {
		w.put(blank())
		w.redir(r)
	}
}

func (w *writer) joined(n api.Node) {
	w.put(when(n.Bang, "! "))
	joint := between(joints[n.Kind-api.Pipe])
	for _, l := range n.Lists {
		w.put(joint())
		w.command(l[0])
	}
}

// compound writes a command of a kind from Group to Switch, but not its redirections.
func (w *writer) compound(n api.Node) {
	switch n.Kind {
	case api.Group:
		w.part("{", n.Lists[0])
		w.put("}")
	case api.Sub:
		w.part("(", n.Lists[0])
		w.put(")")
	case api.If:
		w.conditions(n.Lists)
	case api.While:
		w.part("while", n.Lists[0])
		w.turn(n.Lists[1])
	case api.Until:
		w.part("until", n.Lists[0])
		w.turn(n.Lists[1])
	case api.For:
		w.each(n)
	case api.Switch:
		w.choice(n)
	}
}

// part writes a list on lines of its own, behind the word with which it begins.
func (w *writer) part(begin string, l []api.Node) {
	w.put(begin)
	w.lineFeed()
	w.list(l)
}

func (w *writer) conditions(lists [][]api.Node) {
	begin := "if"
	for len(lists) > 1 {
		w.part(begin, lists[0])
		w.part("then", lists[1])
		begin = "elif"
		lists = lists[2:]
	}
	for _, l := range lists {
		w.part("else", l)
	}
	w.put("fi")
}

// turn writes what a loop does.
func (w *writer) turn(l []api.Node) {
	w.part("do", l)
	w.put("done")
}

func (w *writer) each(n api.Node) {
	w.put("for ", n.Name, when(n.Given, " in"))
	for _, x := range n.Words {
		w.put(" ")
		w.word(x, plain)
	}
	w.lineFeed()
	w.turn(n.Lists[0])
}

func (w *writer) choice(n api.Node) {
	w.put("case ")
	w.word(n.Words[0], plain)
	w.put(" in")
	w.lineFeed()
	for _, c := range n.Cases {
		w.inCase(c)
	}
	w.put("esac")
}

func (w *writer) inCase(c api.Case) {
	w.put("(")
	or := between("|")
	for _, x := range c.Words {
		w.put(or())
		w.word(x, plain)
	}
	w.part(")", c.Body)
	w.put(";;")
	w.lineFeed()
}
