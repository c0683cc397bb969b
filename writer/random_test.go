package writer_test

import (
	"math/rand/v2"
	"slices"
	"strings"
	"testing"

	"whelk/api"
	"whelk/reader"
	"whelk/trees"
	"whelk/writer"
)

// maker makes up commands at random; if odd is above 0, one of so many things may not be.
type maker struct {
	*rand.Rand
	odd  int
	left int // how many things may still come
	deep int // how many more may be in one another
	here bool
}

func newMaker(seed uint64, odd, most, deep int) *maker {
	return &maker{rand.New(rand.NewPCG(14, seed)), odd, most, deep, true}
}

func oneOf[T any](m *maker, l ...T) T { return l[m.IntN(len(l))] }

func (m *maker) maybe() bool { return m.IntN(2) == 0 }

func (m *maker) isOdd() bool { return m.odd > 0 && m.IntN(m.odd) == 0 }

// again is whether one more may come.
func (m *maker) again() bool {
	m.left--
	return m.left > 0 && m.IntN(5) > 1
}

// isPlain is whether the next thing has few others in it.
func (m *maker) isPlain() bool {
	m.left--
	return m.left <= 0 || m.deep <= 0
}

// many makes some things, so many at least.
func many[T any](m *maker, least int, make func() T) []T {
	if m.isOdd() {
		least = 0
	}
	var l []T
	for len(l) < least || m.again() {
		l = append(l, make())
	}
	return l
}

// Where a piece stands.
const (
	outside = iota
	inHole
	inQuotes
	inSum
)

func (m *maker) text(place int) string {
	if m.isOdd() {
		return oneOf(m, "", "#", " ", "$", "'", "\"", "}", "(", "a\nb", "%", "if")
	}
	switch place {
	case inHole:
		return oneOf(m, "a", " ", "\nE\n", "#b", "%", "(", "{", "=", ";&|", ":-")
	case inQuotes:
		return oneOf(m, "a", "$", "`", "\\", "\"", "'", "\nE\n", "}", "\\\n", "$x", "#", "E", "'\"'")
	case inSum:
		return oneOf(m, "1", "(a)", "((b)+c)", "\nE\n", " x ", "}", "?:")
	}
	return oneOf(m, "a", "12", "x-", "E", "{", "}", "b#", "*", "%", "=", "if", "~")
}

func (m *maker) single() api.Piece {
	return single(oneOf(m, "", "a", "'", "a b", "\nE\n", "$x", "\\", "`", "\"", "}", ")", "''x", "#"))
}

func (m *maker) piece(place int) api.Piece {
	kinds := []int{api.Bare, api.Bare, api.Param, api.Command, api.Math}
	if place < inQuotes || m.isOdd() {
		kinds = append(kinds, api.Single, api.Double)
	}
	if m.isPlain() {
		kinds = kinds[:1]
	}
	m.deep--
	defer func() { m.deep++ }()
	switch oneOf(m, kinds...) {
	case api.Single:
		return m.single()
	case api.Double:
		return double(m.word(inQuotes, 0)...)
	case api.Param:
		return m.param()
	case api.Command:
		was := m.here
		m.here = m.isOdd()
		p := command(many(m, 0, m.node)...)
		m.here = was
		return p
	case api.Math:
		return math(m.word(inSum, 0)...)
	}
	return bare(m.text(place))
}

func (m *maker) param() api.Piece {
	op := m.IntN(10)
	name := oneOf(m, "x", "y_1", "0", "7", "12")
	switch {
	case op == api.Value:
		return param(oneOf(m, name, name, "@", "*", "#", "?", "-", "$", "!"), op)
	case op == api.Length && !m.isOdd():
		return param(name, op)
	}
	w := m.word(inHole, 0)
	if op >= api.Head && len(w) > 0 && w[0].Kind == api.Bare {
		w[0].Text = "a" + w[0].Text
	}
	p := param(name, op, w...)
	p.Colon = op < api.Head && m.maybe()
	return p
}

func (m *maker) word(place, least int) api.Word {
	w := many(m, least, func() api.Piece { return m.piece(place) })
	if m.isOdd() {
		return w
	}
	return trees.Clean(w)
}

func (m *maker) whole() api.Word { return m.word(outside, 1) }

func (m *maker) redir() api.Redir {
	r := redir(m.IntN(100), api.In+m.IntN(5))
	if m.isOdd() {
		r.Fd, r.Kind = m.IntN(103)-1, m.IntN(8)
	}
	if !m.here || m.maybe() {
		r.Word = m.whole()
		return r
	}
	r.Kind = api.Here
	if m.maybe() {
		text := strings.Join(many(m, 0, func() string { return oneOf(m, "E\n", "EE\n", "$x '\\\n", "\n", "a E\n") }), "")
		r.Word = api.Word{single(text)}
		return r
	}
	r.Word = api.Word{double()}
	if m.maybe() {
		r.Word[0].Kids = trees.Clean(append(m.word(inQuotes, 0), bare(oneOf(m, "\n", "\nE\n", "$\n", "\\\n"))))
	}
	return r
}

func (m *maker) redirs() []api.Redir {
	if m.IntN(3) > 0 {
		return nil
	}
	return many(m, 1, m.redir)
}

func (m *maker) list() []api.Node { return many(m, 1, m.node) }

// Kinds that may stand in a place; the first one is taken where nothing more is to come.
var (
	compounds = []int{api.Group, api.Sub, api.If, api.While, api.Until, api.For, api.Switch}
	stages    = slices.Concat([]int{api.Simple, api.Simple, api.Simple, api.Func}, compounds)
	piped     = slices.Concat(stages, []int{api.Pipe})
	ahead     = slices.Concat(piped, []int{api.And, api.Or})
	all       = slices.Concat(ahead, []int{api.Back})
)

func (m *maker) node() api.Node { return m.of(all) }

// of is a command of one of these kinds.
func (m *maker) of(kinds []int) api.Node {
	if m.isOdd() {
		kinds = slices.Concat([]int{0, 14}, all)
	}
	if m.isPlain() {
		kinds = kinds[:1]
	}
	m.deep--
	defer func() { m.deep++ }()
	n := api.Node{Kind: oneOf(m, kinds...)}
	switch n.Kind {
	case api.Simple:
		return m.simple()
	case api.Pipe:
		n.Bang = m.maybe()
		l := []api.Node{m.of(stages)}
		for !n.Bang && len(l) == 1 || m.again() {
			l = append(l, m.of(stages))
		}
		return api.Node{Kind: n.Kind, Bang: n.Bang, Lists: pair(n.Kind, l...).Lists}
	case api.And, api.Or:
		return pair(n.Kind, m.of(ahead), m.of(piped))
	case api.Back:
		return pair(n.Kind, m.of(ahead))
	case api.Func:
		return function(oneOf(m, "f", "_1", "E"), m.of(compounds))
	case api.Group, api.Sub:
		n.Lists = [][]api.Node{m.list()}
	case api.If:
		n.Lists = append([][]api.Node{m.list(), m.list()}, many(m, 0, m.list)...)
	case api.While, api.Until:
		n.Lists = [][]api.Node{m.list(), m.list()}
	case api.For:
		n = each(oneOf(m, "i", "in", "do"), m.maybe(), nil, m.list()...)
		if n.Given || m.isOdd() {
			n.Words = many(m, 0, m.whole)
		}
	case api.Switch:
		n = choice(m.whole(), many(m, 0, func() api.Case { return inCase(many(m, 1, m.whole), many(m, 0, m.node)...) })...)
	}
	n.Redirs = m.redirs()
	return n
}

func (m *maker) simple() api.Node {
	n := api.Node{Kind: api.Simple, Words: many(m, 1, m.whole), Redirs: m.redirs()}
	if m.maybe() {
		n.Sets = many(m, 1, func() api.Set { return api.Set{Name: oneOf(m, "x", "if", "E"), Word: m.word(outside, 0)} })
	}
	if len(n.Sets) > 0 && m.maybe() {
		n.Words = nil
	}
	if len(n.Words) > 0 && !m.isOdd() {
		// A first word that is neither reserved nor a name and its value.
		n.Words[0] = append(api.Word{bare(oneOf(m, "c", "E", "/x"))}, dropBare(n.Words[0])...)
	}
	return n
}

func dropBare(w api.Word) api.Word {
	if len(w) > 0 && w[0].Kind == api.Bare {
		return w[1:]
	}
	return w
}

// holds holds what is written of a list against the second writing of it, and reads it again.
func holds(t *testing.T, l []api.Node) api.Errno {
	t.Helper()
	s, e := writer.Script(l)
	if may := trees.Check(l); may != api.OK {
		if s != "" || e != may {
			t.Fatalf("%q, %v, not %v, of %v", s, e, may, l)
		}
		return e
	}
	want, wantE := modelScript(l), api.OK
	if len(want) > 4096 {
		want, wantE = "", api.ErrBig
	}
	if s != want || e != wantE {
		t.Fatalf("%q, %v, not %q, %v", s, e, want, wantE)
	}
	if e != api.OK {
		return e
	}
	back, place, wrong := reader.Program(s, nil)
	if !trees.Same(back, l) || wrong != api.OK {
		t.Fatalf("%q is read as another one: %d, %v", s, place, wrong)
	}
	for _, n := range l {
		for _, w := range n.Words {
			holdsWord(t, w)
		}
	}
	return e
}

func holdsWord(t *testing.T, w api.Word) {
	t.Helper()
	s, e := writer.Word(w)
	if s != modelWord(w) || e != api.OK {
		t.Fatalf("%q, %v, not %q", s, e, modelWord(w))
	}
	if back, place, e := reader.Word(s); !trees.Words(back, w) || e != api.OK {
		t.Fatalf("%q is read as another one: %d, %v", s, place, e)
	}
}

func TestWhatIsWrittenIsRead_P14_2(t *testing.T) {
	count := map[api.Errno]int{}
	for seed := range uint64(16000) {
		most := 3 << (seed % 9)
		if seed%80 == 0 {
			most = 5000
		}
		m := newMaker(seed, 0, most, 1+int(seed%17))
		count[holds(t, m.list())]++
	}
	if count[api.OK] < 14000 || count[api.ErrBig] < 50 || count[api.ErrArg] > 0 {
		t.Error(count)
	}
}

func TestWhatMayNotBeIsNotWritten_P14_1(t *testing.T) {
	count := map[api.Errno]int{}
	for seed := range uint64(16000) {
		m := newMaker(seed+1<<32, 4+int(seed%100), 3<<(seed%6), 1+int(seed%20))
		count[holds(t, m.list())]++
	}
	if count[api.OK] < 2000 || count[api.ErrArg] < 2000 {
		t.Error(count)
	}
}

// scraps mean something in one place or another.
var scraps = []string{"a", "b ", "E", "if", "then", "fi", "do", "done", "while", "for x", "in", "case a in", "esac", "{", "}", "!", "(", ")", ";", ";;", "&", "&&", "||", "|", "<", ">", "2>&1", ">>f", "<>g", "<<E", "<<'E'", "<<-E", "\nE\n", "\n", "\t", " ", "$", "`", "\"", "'", "\\", "\\\n", "#", "$(", "${", "$((", "))", "$x", "$@", "${x}", "${#x}", "${x:-", "${x%%", "$((1+", "x=", "f()", "'a b'", "\"a $x\"", "$(a)", "`a`", "$((1))", "if a; then b; fi", "{ a; }", "(a)", "cat <<E\n$x $(a)\nE\n"}

// What is read, and may be written, is written, and read again, as the same.
func TestWhatIsReadIsWritten_P14_2(t *testing.T) {
	r := rand.New(rand.NewPCG(14, 45))
	count := 0
	for range 300000 {
		var script strings.Builder
		for range 1 + r.IntN(9) {
			script.WriteString(scraps[r.IntN(len(scraps))])
			if r.IntN(3) > 0 {
				script.WriteByte(' ')
			}
		}
		l, _, e := reader.Program(script.String(), nil)
		if e != api.OK || len(l) == 0 {
			continue
		}
		count++
		if e := holds(t, l); e != api.OK {
			t.Fatalf("%q: %v", script.String(), e)
		}
	}
	if count < 20000 {
		t.Error(count)
	}
}

// What is read may be too deep, or too great, to be written.
func TestWhatMayNotBeWritten_P14_2(t *testing.T) {
	for n, want := range map[int]api.Errno{18: api.OK, 19: api.ErrDeep, 38: api.ErrDeep} {
		l, _, e := reader.Program(strings.Repeat("(", n)+"a"+strings.Repeat(")", n), nil)
		if got := holds(t, l); got != want || e != api.OK {
			t.Error(n, got, e)
		}
	}
	l, _, e := reader.Program(strings.Repeat("a>f;", 1024), nil)
	if got := holds(t, l); got != api.ErrBig || e != api.OK {
		t.Error(got, e)
	}
}
