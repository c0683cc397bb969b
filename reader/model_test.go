package reader_test

import (
	"math/rand/v2"
	"strings"
	"testing"

	"whelk/api"
	"whelk/lexer"
	"whelk/reader"
	"whelk/state"
	"whelk/trees"
)

// rules is a second reading of the grammar: each line a thing and what it may be, `|` between each two.
// What ends in W is ended by a reserved word: a Simple with a word, or a name=word, would take that as a word of its own.
const rules = `
ALL = NLS LINE | NLS end
LINE = AO EOL | AO SEP EOL | AO SEP LINE
SEP = ; | &
EOL = nl | end
NLS = | NLS nl
AO = PIPE | AO JOINT NLS PIPE
JOINT = && | ||
PIPE = CMDS | !! CMDS
CMDS = CMD | CMDS bar NLS CMD
CMD = SIMPLE | FUNC | COMP REDIRS
FUNC = fname ( ) NLS COMP REDIRS
SIMPLE = REDIRS1 | REDIRS plain REST | REDIRS set PRE | REDIRS set PRE any REST
REDIRS = | REDIRS REDIR
REDIRS1 = REDIR | REDIRS1 REDIR
PRE = | PRE REDIR | PRE set
REST = | REST REDIR | REST word
REDIR = num <> word | <> word
LIST = NLS ITEMS
ITEMS = AO | AO PART | AO PART ITEMS
PART = SEP NLS | nl NLS
LISTW = NLS ITEMSW
ITEMSW = AOW | AO PART | AO PART ITEMSW
AOW = PIPEW | AO JOINT NLS PIPEW
PIPEW = CMDSW | !! CMDSW
CMDSW = CMDW | CMDS bar NLS CMDW
CMDW = REDIRS1 | FUNC | COMP REDIRS
COMP = { LISTW } | ( LIST ) | if LISTW then LISTW ELIFS ELSE fi | while LISTW DO | until LISTW DO | for name FOR DO | case word NLS in NLS CASES esac
ELIFS = | ELIFS elif LISTW then LISTW
ELSE = | else LISTW
DO = do LISTW done
FOR = NLS | ; NLS | NLS in WORDS ; NLS | NLS in WORDS nl NLS
WORDS = | WORDS word
CASES = CASES1 | CASES1 PATS ) NLS | CASES1 PATS ) LISTW
CASES1 = | CASES1 PATS ) NLS ;; NLS | CASES1 PATS ) LIST ;; NLS
PATS = ( word ALTS | noesac ALTS
ALTS = | ALTS bar word
`

// grammar is rules by the thing that they tell of.
type grammar map[string][][]string

func newGrammar() grammar {
	g := grammar{}
	for _, l := range strings.Split(strings.TrimSpace(rules), "\n") {
		name, rest, _ := strings.Cut(l, " = ")
		// An op || would be taken as two marks between.
		rest = strings.ReplaceAll(rest, "| ||", "| either")
		for _, alt := range strings.Split(rest, "|") {
			g[name] = append(g[name], strings.Fields(alt))
		}
	}
	return g
}

// fits is whether a thing is what a rule's word asks for.
func fits(t lexer.Token, want string) bool {
	name, _, isSet := strings.Cut(t.Text, "=")
	isSet = isSet && state.Name(name)
	reserved := lexer.Reserved(t.Text)
	switch want {
	case "nl":
		return t.Kind == lexer.Newline
	case "end":
		return t.Kind == lexer.End
	case "num":
		return t.Kind == lexer.Number && len(t.Text) < 3
	case "bar":
		return t.Kind == lexer.Op && t.Text == "|"
	case "either":
		return t.Kind == lexer.Op && t.Text == "||"
	case "<>":
		return t.Kind == lexer.Op && strings.ContainsAny(t.Text, "<>") && !strings.HasPrefix(t.Text, "<<")
	case ";", "&", "&&", "(", ")", ";;":
		return t.Kind == lexer.Op && t.Text == want
	}
	if t.Kind != lexer.Word {
		return false
	}
	switch want {
	case "word":
		return true
	case "plain":
		return !reserved && !isSet
	case "any":
		return !isSet
	case "set":
		return isSet
	case "name":
		return state.Name(t.Text)
	case "fname":
		return state.Name(t.Text) && !reserved
	case "noesac":
		return t.Text != "esac"
	case "!!":
		return t.Text == "!"
	}
	return t.Text == want
}

// item is a rule, how far it is read, and where it began.
type item struct {
	name      string
	alt, seen int
	from      int
}

// chart is the items at each place between things: Earley's way of reading.
type chart struct {
	g    grammar
	sets [][]item
}

func newChart(g grammar) *chart {
	c := &chart{g: g}
	c.sets = append(c.sets, c.closed([]item{{"ALL", 0, 0, 0}, {"ALL", 1, 0, 0}}))
	return c
}

func (c *chart) next(i item) string {
	alt := c.g[i.name][i.alt]
	if i.seen == len(alt) {
		return ""
	}
	return alt[i.seen]
}

// closed adds what items bring with them, being the set behind those of c.
func (c *chart) closed(set []item) []item {
	here := len(c.sets)
	has := map[item]bool{}
	for _, i := range set {
		has[i] = true
	}
	add := func(i item) {
		if !has[i] {
			has[i] = true
			set = append(set, i)
		}
	}
	// What is nothing is done anew for items that come later: so all is gone through till nothing is added.
	for size := -1; size != len(set); {
		size = len(set)
		for k := 0; k < len(set); k++ {
			i := set[k]
			next := c.next(i)
			if next == "" {
				origin := set
				if i.from < here {
					origin = c.sets[i.from]
				}
				for _, o := range origin {
					if c.next(o) == i.name {
						o.seen++
						add(o)
					}
				}
				continue
			}
			for alt := range c.g[next] {
				add(item{next, alt, 0, here})
			}
		}
	}
	return set
}

// takes reads one thing more, unless none can stand there.
func (c *chart) takes(t lexer.Token) bool {
	var set []item
	for _, i := range c.sets[len(c.sets)-1] {
		if next := c.next(i); next != "" && c.g[next] == nil && fits(t, next) {
			i.seen++
			set = append(set, i)
		}
	}
	if len(set) == 0 {
		return false
	}
	c.sets = append(c.sets, c.closed(set))
	return true
}

// whole is whether a line has come to its end.
func (c *chart) whole() bool {
	for _, i := range c.sets[len(c.sets)-1] {
		if i.name == "ALL" && i.from == 0 && c.next(i) == "" {
			return true
		}
	}
	return false
}

// until takes chart and its sets up to a place.
func (c *chart) until(n int) { c.sets = c.sets[:n] }

// held is what Line should answer of a line that stands in a chart, if nothing stands behind.
func (c *chart) held(s string, end lexer.Token) fault {
	n := len(c.sets)
	defer c.until(n)
	if c.whole() || c.takes(end) {
		return fault{s, 0, api.OK}
	}
	return fault{s, len(s), api.ErrMore}
}

func endOf(s string) lexer.Token { return lexer.Token{At: len(s), Stop: len(s)} }

// hold asks of Line what is wanted; what is read may be, but for its depth.
func hold(t *testing.T, want fault) {
	t.Helper()
	l, _, place, e := reader.Line(want.s, 0, nil)
	if e == api.ErrDeep && want.e == api.OK {
		return
	}
	if place != want.place || e != want.e {
		t.Fatalf("%q: %s, %d, %v, not %d, %v", want.s, told(l), place, e, want.place, want.e)
	}
	if may := trees.Check(l); may != api.OK && may != api.ErrDeep {
		t.Fatalf("%q is read as what may not be: %s", want.s, told(l))
	}
}

// bits are what scripts are put together of: each a thing, or a number and its op.
var bits = []string{"a", "x=1", "f", "if", "then", "else", "elif", "fi", "while", "until", "do", "done", "for", "in", "case", "esac", "{", "}", "!", "(", ")", ";", "&", "|", "&&", "||", ";;", "\n", ">", "2>", "123<", "'if'"}

// grow takes all rows of bits behind a row, as long as it may go on.
func grow(t *testing.T, c *chart, s string, left int, from []string) {
	t.Helper()
	n := len(c.sets)
	for _, b := range from {
		more := s + b + " "
		l, _, e := lexer.All(b)
		if e != api.OK {
			t.Fatal(b)
		}
		good := true
		for _, x := range l {
			if good = c.takes(x); !good {
				hold(t, fault{more, len(s) + x.At, api.ErrSyntax})
				break
			}
		}
		if good {
			if !c.whole() {
				hold(t, c.held(more, endOf(more)))
			}
			if left > 1 && !c.whole() {
				grow(t, c, more, left-1, from)
			}
		}
		c.until(n)
	}
}

func TestAllShortLines_P13_2(t *testing.T) {
	grow(t, newChart(newGrammar()), "", 4, bits)
	few := []string{"a", "x=1", "{", "}", "if", "then", "fi", "(", ")", ";", "&", "|", "&&", "\n", ">"}
	grow(t, newChart(newGrammar()), "", 5, few)
}

// Long lines, made up at random of bits that may stand there; each of their beginnings, and with another bit behind.
func TestLongLines_P13_2(t *testing.T) {
	g := newGrammar()
	r := rand.New(rand.NewPCG(13, 2))
	for range 1500 {
		c, s := newChart(g), ""
		for len(c.sets) < 30 {
			b := bits[r.IntN(len(bits))]
			l, _, _ := lexer.All(b)
			n, good := len(c.sets), true
			for _, x := range l {
				if good = good && c.takes(x); !good {
					hold(t, fault{s + b + " \"", len(s) + x.At, api.ErrSyntax})
					break
				}
			}
			if !good || c.whole() {
				c.until(n)
				continue
			}
			s += b + strings.Repeat(" ", 1+r.IntN(2))
			if r.IntN(4) == 0 {
				s += "\\\n"
			}
			hold(t, c.held(s, endOf(s)))
			hold(t, fault{s + "\"", len(s) + 1, api.ErrMore})
		}
	}
}
