package reader_test

import (
	"math/rand/v2"
	"strings"
	"testing"

	"whelk/api"
	"whelk/reader"
	"whelk/trees"
)

// speaker makes up commands at random, and writes them, each time in one of the ways in which they may be written.
type speaker struct {
	*rand.Rand
	out   strings.Builder
	texts []string // what stands behind the next line feed
	inner bool     // what is written is a Command's
}

func newSpeaker(seed uint64) *speaker { return &speaker{Rand: rand.New(rand.NewPCG(13, seed))} }

func one[T any](s *speaker, of ...T) T { return of[s.IntN(len(of))] }

func (s *speaker) maybe() bool { return s.IntN(2) == 0 }

func (s *speaker) say(parts ...string) {
	for _, p := range parts {
		s.out.WriteString(p)
	}
}

// gap is what may stand between two things, also nothing. (Just behind a word a \ and a line feed would be of it.)
func (s *speaker) gap() { s.say(one(s, "", "", " ", "\t ", " \\\n", " \\\n ")) }

// blank is what must stand between two words.
func (s *speaker) blank() { s.say(one(s, " ", " ", "\t", "  ", " \\\n", " \\\n ")) }

func (s *speaker) lineFeed() {
	if s.IntN(6) == 0 {
		s.say(" ", one(s, "#", "# c", "#then;", "##"))
	}
	s.say("\n")
	s.say(s.texts...)
	s.texts = nil
}

func (s *speaker) lineFeeds() {
	for s.IntN(4) == 0 {
		s.gap()
		s.lineFeed()
	}
	s.gap()
}

// What a word is written in.
const (
	bare = iota
	inHole
	inQuotes
	inText
	inSum
)

// escape writes a byte behind a \ if it would mean something in quotes, or in a text in place.
func escape(s string, place int) string {
	special := "$`\\"
	if place == inQuotes {
		special += "\""
	}
	var out strings.Builder
	for i := range len(s) {
		if strings.IndexByte(special, s[i]) >= 0 {
			out.WriteString("\\")
		}
		out.WriteByte(s[i])
	}
	return out.String()
}

func (s *speaker) bareText(place int) string {
	switch place {
	case inHole:
		return one(s, "a", " b", "\n", "c;d", "#", "%", "{", "()", "=", ">", "1")
	case inQuotes, inText:
		return one(s, "a", " b ", "\n", "'", "\"", "$", "`", "\\", "}", "#", ")", "&&", "\\\\", "'$x'")
	case inSum:
		return one(s, "1", "+2", " x ", "(3)", "\n", "*", "((4)+5)", "}", "a?b:c")
	}
	return one(s, "a", "b1", "if", "{", "}", "=", "x=1", "-", "a#", "~/", "*?[c]", "2", "!", "%")
}

// piece writes a piece for a place; none, if nothing that fits there comes to mind.
func (s *speaker) piece(place, deep int) api.Word {
	kind := 1 + s.IntN(6)
	if deep <= 0 || s.IntN(3) == 0 {
		kind = api.Bare + s.IntN(2)
	}
	if place >= inQuotes && (kind == api.Single || kind == api.Double) {
		kind = api.Bare
	}
	switch kind {
	case api.Bare:
		text := s.bareText(place)
		if place == inQuotes || place == inText {
			s.say(escape(text, place))
			if place == inQuotes && s.IntN(4) == 0 {
				s.say("\\\n")
			}
			return api.Word{{Kind: api.Bare, Text: text}}
		}
		s.say(text)
		return api.Word{{Kind: api.Bare, Text: text}}
	case api.Single:
		return api.Word{s.single()}
	case api.Double:
		s.say("\"")
		w := s.word(inQuotes, deep-1)
		s.say("\"")
		return api.Word{{Kind: api.Double, Kids: w}}
	case api.Param:
		return s.param(place, deep)
	case api.Command:
		return api.Word{s.command(deep)}
	}
	s.say("$((")
	w := s.word(inSum, deep-1)
	s.say("))")
	return api.Word{{Kind: api.Math, Kids: w}}
}

func (s *speaker) single() api.Piece {
	if s.maybe() {
		b := one(s, "a", " ", "\\", "\"", "'", "$", ";", "`", "{", "#")
		s.say("\\", b)
		return api.Piece{Kind: api.Single, Text: b}
	}
	text := one(s, "", "b", "a b", "\n", "$x", "\\", "\"", "`", "}", ")", "<<E", "#")
	s.say("'", text, "'")
	return api.Piece{Kind: api.Single, Text: text}
}

func (s *speaker) param(place, deep int) api.Word {
	out := api.Piece{Kind: api.Param, Text: one(s, "x", "y_1", "0", "12", "7", "@", "#", "?", "-", "!", "*")}
	sign := strings.Contains("@#?-!*", out.Text)
	if s.maybe() {
		out.Op = s.IntN(10)
	}
	if sign {
		out.Op = api.Value
	}
	switch {
	case out.Op == api.Value && s.maybe() && len(out.Text) < 2:
		// A byte that no name goes on with stands behind it.
		behind := one(s, "%", "/", ".")
		s.say("$", out.Text, behind)
		return api.Word{out, {Kind: api.Bare, Text: behind}}
	case out.Op == api.Value:
		s.say("${", out.Text, "}")
	case out.Op == api.Length:
		s.say("${#", out.Text, "}")
	default:
		if out.Op < api.Head && s.maybe() {
			out.Colon = true
		}
		s.say("${", out.Text, map[bool]string{true: ":"}[out.Colon], opMarks[out.Op])
		if out.Op == api.Head || out.Op == api.Tail {
			s.say("a")
			out.Kids = api.Word{{Kind: api.Bare, Text: "a"}}
		}
		out.Kids = append(out.Kids, s.word(inHole, deep-1)...)
		s.say("}")
	}
	return api.Word{out}
}

// command writes commands between $( and ), or between two `.
func (s *speaker) command(deep int) api.Piece {
	in := &speaker{Rand: s.Rand, inner: true}
	body := in.lines(s.IntN(3), deep-1)
	text := in.out.String()
	if !s.maybe() {
		s.say("$( ", text, ")")
		return api.Piece{Kind: api.Command, Body: body}
	}
	var out strings.Builder
	for i := range len(text) {
		if c := text[i]; c == '`' || c == '\\' || c == '$' && s.maybe() {
			out.WriteString("\\")
		}
		out.WriteByte(text[i])
	}
	s.say("`", out.String(), "`")
	return api.Piece{Kind: api.Command, Body: body}
}

// word writes pieces, perhaps none.
func (s *speaker) word(place, deep int) api.Word {
	var w api.Word
	for range s.IntN(4) {
		w = append(w, s.piece(place, deep)...)
	}
	return trees.Clean(w)
}

// whole writes a word that is one, also as the first one of a command.
func (s *speaker) whole(deep int) api.Word {
	first := api.Piece{Kind: api.Bare}
	switch s.IntN(3) {
	case 0:
		first.Text = one(s, "a", "f", "b1")
		s.say(first.Text)
		return api.Word{first}
	case 1:
		first.Text = one(s, "a-", "/bc", "d.e", "+", "~", "2x:")
		s.say(first.Text)
	default:
		first = s.single()
	}
	return trees.Clean(append(api.Word{first}, s.word(bare, deep)...))
}

// free is a whole word that may be like a reserved one, or a name=word.
func (s *speaker) free(deep int) api.Word {
	if s.IntN(4) > 0 {
		return s.whole(deep)
	}
	text := one(s, "if", "}", "do", "in", "x=1", "!", "esac", "12")
	s.say(text)
	return api.Word{{Kind: api.Bare, Text: text}}
}

func (s *speaker) redir(deep int) api.Redir {
	r := api.Redir{Kind: 1 + s.IntN(6)}
	if s.inner && r.Kind == api.Here {
		r.Kind = api.Out
	}
	mark := redirMarks[r.Kind]
	switch {
	case r.Kind == api.Out && s.maybe():
		mark = ">|"
	case r.Kind == api.Dup && s.maybe():
		mark = "<&"
	}
	if mark[0] == '>' {
		r.Fd = 1
	}
	if s.maybe() {
		number := one(s, "0", "2", "07", "13")
		s.say(number)
		r.Fd = map[string]int{"0": 0, "2": 2, "07": 7, "13": 13}[number]
	}
	s.say(mark)
	if r.Kind != api.Here {
		s.gap()
		r.Word = s.free(deep)
		return r
	}
	r.Word = api.Word{s.text(deep)}
	return r
}

// text writes the mark of a text in place, and keeps the text for later.
func (s *speaker) text(deep int) api.Piece {
	tabs := s.maybe()
	if tabs {
		s.say("-")
	}
	s.gap()
	indent := func() string {
		if tabs && s.maybe() {
			return "\t\t"
		}
		return ""
	}
	if s.maybe() {
		s.say(one(s, "'MARK'", "M\\ARK", "\"MA\"RK", "M''ARK"))
		text := one(s, "", "a\n", "$x\n`\n", "\\\nMAR\n\n", "MARKS\n")
		var lines string
		for _, l := range strings.SplitAfter(text, "\n") {
			if l != "" {
				lines += indent() + l
			}
		}
		s.texts = append(s.texts, lines+indent()+"MARK\n")
		return api.Piece{Kind: api.Single, Text: text}
	}
	s.say("MARK")
	in := &speaker{Rand: s.Rand}
	var w api.Word
	if s.IntN(4) > 0 {
		w = in.word(inText, deep-1)
		w = trees.Clean(append(w, api.Piece{Kind: api.Bare, Text: "\n"}))
		in.say("\n")
	}
	lines := in.out.String()
	if tabs {
		// What stands at the beginning of a line within a hole loses its tabs, too.
		lines = indent() + strings.ReplaceAll(lines, "\t", " ")
	}
	if lines == "\t\t" {
		lines = ""
	}
	s.texts = append(s.texts, lines+indent()+"MARK\n")
	return api.Piece{Kind: api.Double, Kids: w}
}

func (s *speaker) redirs(n *api.Node, deep int) {
	for s.IntN(3) == 0 {
		s.blank()
		n.Redirs = append(n.Redirs, s.redir(deep))
	}
}

func (s *speaker) simple(deep int) api.Node {
	n := api.Node{Kind: api.Simple}
	for first := true; first || s.IntN(3) == 0; first = false {
		if !first {
			s.blank()
		}
		switch s.IntN(4) {
		case 0:
			s.say("x=")
			n.Sets = append(n.Sets, api.Set{Name: "x", Word: s.value(deep)})
		case 1:
			n.Redirs = append(n.Redirs, s.redir(deep))
		default:
			n.Words = append(n.Words, s.whole(deep))
			s.rest(&n, deep)
			return n
		}
	}
	return n
}

// value is a word behind a name and its =.
func (s *speaker) value(deep int) api.Word {
	if s.maybe() {
		return nil
	}
	return s.free(deep)
}

func (s *speaker) rest(n *api.Node, deep int) {
	for s.IntN(3) > 0 {
		s.blank()
		if s.IntN(4) == 0 {
			n.Redirs = append(n.Redirs, s.redir(deep))
		} else {
			n.Words = append(n.Words, s.free(deep))
		}
	}
}

// words writes words, each behind a blank.
func (s *speaker) words(least, deep int) []api.Word {
	var l []api.Word
	for range least + s.IntN(3) {
		s.blank()
		l = append(l, s.free(deep))
	}
	return l
}

// part writes what parts a command from the next one, in a list.
func (s *speaker) part(n api.Node) {
	switch {
	case n.Kind == api.Back:
		s.say(" &")
	case s.maybe():
		s.gap()
		s.say(";")
	default:
		s.gap()
		s.lineFeed()
	}
	s.lineFeeds()
}

// list writes commands, and what parts the last one from what ends them.
func (s *speaker) list(deep int) []api.Node {
	s.say(" ")
	s.lineFeeds()
	var l []api.Node
	for range 1 + s.IntN(2) {
		n := s.oneCommand(deep)
		l = append(l, n)
		s.part(n)
	}
	return l
}

// oneCommand is one command, perhaps a Back, whose & is not written.
func (s *speaker) oneCommand(deep int) api.Node {
	n := s.andOr(deep)
	if s.IntN(5) == 0 {
		return api.Node{Kind: api.Back, Lists: [][]api.Node{{n}}}
	}
	return n
}

func (s *speaker) andOr(deep int) api.Node {
	n := s.pipe(deep)
	for s.IntN(4) == 0 {
		kind := one(s, api.And, api.Or)
		s.gap()
		s.say(map[int]string{api.And: "&&", api.Or: "||"}[kind])
		s.lineFeeds()
		n = api.Node{Kind: kind, Lists: [][]api.Node{{n}, {s.pipe(deep)}}}
	}
	return n
}

func (s *speaker) pipe(deep int) api.Node {
	n := api.Node{Kind: api.Pipe, Bang: s.IntN(6) == 0}
	if n.Bang {
		s.say("!")
		s.blank()
	}
	n.Lists = append(n.Lists, []api.Node{s.any(deep)})
	for s.IntN(4) == 0 {
		s.gap()
		s.say("|")
		s.lineFeeds()
		n.Lists = append(n.Lists, []api.Node{s.any(deep)})
	}
	if !n.Bang && len(n.Lists) == 1 {
		return n.Lists[0][0]
	}
	return n
}

// any writes a command of any kind but Pipe, And, Or and Back.
func (s *speaker) any(deep int) api.Node {
	switch {
	case deep <= 0 || s.IntN(3) > 0:
		return s.simple(deep)
	case s.IntN(6) == 0:
		s.say("fun")
		s.gap()
		s.say("(")
		s.gap()
		s.say(")")
		s.lineFeeds()
		return api.Node{Kind: api.Func, Name: "fun", Lists: [][]api.Node{{s.compound(deep)}}}
	}
	return s.compound(deep)
}

func (s *speaker) compound(deep int) api.Node {
	n := api.Node{Kind: api.Group + s.IntN(7)}
	deep--
	switch n.Kind {
	case api.Group:
		s.say("{")
		n.Lists = append(n.Lists, s.list(deep))
		s.say("}")
	case api.Sub:
		s.say("(")
		n.Lists = append(n.Lists, s.list(deep))
		s.say(")")
	case api.If:
		for _, mark := range [][2]string{{"if", "then"}, {"elif", "then"}, {"elif", "then"}}[:1+s.IntN(3)] {
			s.say(mark[0])
			n.Lists = append(n.Lists, s.list(deep))
			s.say(mark[1])
			n.Lists = append(n.Lists, s.list(deep))
		}
		if s.maybe() {
			s.say("else")
			n.Lists = append(n.Lists, s.list(deep))
		}
		s.say("fi")
	case api.While, api.Until:
		s.say(map[int]string{api.While: "while", api.Until: "until"}[n.Kind])
		n.Lists = append(n.Lists, s.list(deep))
		s.turn(&n, deep)
	case api.For:
		s.each(&n, deep)
	case api.Switch:
		s.choice(&n, deep)
	}
	s.redirs(&n, deep)
	return n
}

func (s *speaker) turn(n *api.Node, deep int) {
	s.say("do")
	n.Lists = append(n.Lists, s.list(deep))
	s.say("done")
}

func (s *speaker) each(n *api.Node, deep int) {
	n.Name = one(s, "i", "if", "in", "do")
	s.say("for ", n.Name)
	s.blank()
	if s.maybe() {
		n.Given = true
		s.lineFeeds()
		s.say("in")
		n.Words = s.words(0, deep)
		s.gap()
		if s.maybe() {
			s.say(";")
		} else {
			s.lineFeed()
		}
	} else if s.maybe() {
		s.say(";")
	}
	s.lineFeeds()
	s.turn(n, deep)
}

func (s *speaker) choice(n *api.Node, deep int) {
	s.say("case ")
	n.Words = []api.Word{s.free(deep)}
	s.blank()
	s.lineFeeds()
	s.say("in ")
	s.lineFeeds()
	count := s.IntN(4)
	for i := range count {
		// Within a Command a ) that goes with no ( would end it.
		var c api.Case
		if s.inner || s.maybe() {
			s.say("(")
			s.gap()
			c.Words = append(c.Words, s.free(deep))
		} else {
			c.Words = append(c.Words, s.whole(deep))
		}
		for s.IntN(3) == 0 {
			s.gap()
			s.say("|")
			s.gap()
			c.Words = append(c.Words, s.free(deep))
		}
		s.gap()
		s.say(")")
		if s.maybe() {
			c.Body = s.list(deep)
		} else {
			s.say(" ")
			s.lineFeeds()
		}
		if i < count-1 || s.maybe() {
			s.say(" ;;")
			s.lineFeeds()
		}
		n.Cases = append(n.Cases, c)
	}
	s.say("esac")
}

// lines writes so many lines.
func (s *speaker) lines(count, deep int) []api.Node {
	var all []api.Node
	for range count {
		s.lineFeeds()
		n := s.oneCommand(deep)
		all = append(all, n)
		for s.IntN(3) == 0 {
			s.say(map[bool]string{true: " & ", false: " ; "}[n.Kind == api.Back])
			n = s.oneCommand(deep)
			all = append(all, n)
		}
		if n.Kind == api.Back {
			s.say(" &")
		} else if s.maybe() {
			s.say(" ;")
		}
		s.gap()
		s.lineFeed()
	}
	return all
}

func TestWhatIsWrittenIsRead_P13_1(t *testing.T) {
	count := 0
	for seed := range uint64(8000) {
		s := newSpeaker(seed)
		want := s.lines(1+s.IntN(3), 1+s.IntN(4))
		text := s.out.String()
		if len(text) > api.MaxText || trees.Deep(want) > api.MaxDepth {
			continue
		}
		count++
		l, place, e := reader.Program(text, nil)
		if !trees.Same(l, want) || place != 0 || e != api.OK {
			t.Fatalf("%q: %s, %d, %v, not %s", text, told(l), place, e, told(want))
		}
		if may := trees.Check(l); may != api.OK && (may != api.ErrDeep || trees.Deep(l) <= 20) {
			t.Fatalf("%q is read as what may not be: %v, %s", text, may, told(l))
		}
	}
	if count < 6000 {
		t.Error(count)
	}
}
