package trees_test

import (
	"math/rand/v2"
	"reflect"
	"regexp"
	"strings"
	"testing"

	"whelk/api"
	"whelk/trees"
)

// maker makes up lists at random. What it makes may be for the most part; now and then a thing is taken from anywhere.
type maker struct {
	*rand.Rand
	wrong int // one of so many things is taken from anywhere; none, if it is 0
	here  bool
}

func (m *maker) odd() bool { return m.wrong > 0 && m.IntN(m.wrong) == 0 }

func pick[T any](m *maker, l ...T) T { return l[m.IntN(len(l))] }

// texts are those that mean something in one place or another.
var texts = []string{"", "a", "b", "#", "#a", "%", "%b", "a#", "a b", "a\n", "\n", "$", "`", "'", `"`, `\`, "}", "{", "(", ")", "()", "a=b", "a=", "=", "if", "done", "x1", "1", "0", "01", "@", "!", ";", "|", "&", "<", ">", "\t", "-", ":", "*"}

// bare is a text of a Bare piece for a place.
func (m *maker) bare(in int) string {
	if m.odd() {
		return pick(m, texts...)
	}
	switch in {
	case 1:
		return pick(m, "a", "bc", " ", "\n", "#a", "%%", "(", "{", "=")
	case 2:
		return pick(m, "a\n", " ", "$", "'\"\n", "#", "}", "\n")
	case 3:
		return pick(m, "1", "+", "(a)", "x y", "}", "()")
	}
	return pick(m, "a", "bc", "x1", "{", "if", "*", "=", "~", "}", "a#", "-")
}

func (m *maker) word(in, deep int) api.Word {
	var w api.Word
	for range m.IntN(3) {
		w = append(w, m.piece(in, deep))
	}
	if m.odd() {
		return w
	}
	return trees.Clean(w)
}

func (m *maker) whole(deep int) api.Word {
	w := m.word(0, deep)
	if len(w) == 0 && !m.odd() {
		return api.Word{bare(m.bare(0))}
	}
	return w
}

func (m *maker) wholes(least, deep int) []api.Word {
	var l []api.Word
	for range least + m.IntN(3) {
		l = append(l, m.whole(deep))
	}
	return l
}

func (m *maker) piece(in, deep int) api.Piece {
	p := api.Piece{Kind: 1 + m.IntN(6)}
	if (in == 2 || in == 3) && (p.Kind == api.Single || p.Kind == api.Double) && !m.odd() || deep <= 0 {
		p.Kind = api.Bare
	}
	switch p.Kind {
	case api.Bare:
		p.Text = m.bare(in)
	case api.Single:
		p.Text = pick(m, texts...)
	case api.Double:
		p.Kids = m.word(2, deep-1)
	case api.Param:
		p.Text, p.Op = pick(m, "a", "x1", "10", "0"), m.IntN(10)
		if p.Op > api.Length || m.odd() {
			p.Kids, p.Colon = m.word(1, deep-1), p.Op < api.Head && m.IntN(2) == 0
			if p.Op >= api.Head && len(p.Kids) > 0 && p.Kids[0].Kind == api.Bare && !m.odd() {
				p.Kids[0].Text = "a" + p.Kids[0].Text
			}
		}
		if p.Op == api.Value || m.odd() {
			p.Text = pick(m, "a", "@", "$", "!", "1")
		}
	case api.Command:
		was := m.here
		m.here = false
		p.Body = m.list(0, deep-1)
		m.here = was
	case api.Math:
		p.Kids = m.word(3, deep-1)
	}
	if m.odd() {
		switch m.IntN(6) {
		case 0:
			p.Kind = m.IntN(9) - 1
		case 1:
			p.Text = pick(m, texts...)
		case 2:
			p.Op = m.IntN(13) - 2
		case 3:
			p.Colon = !p.Colon
		case 4:
			p.Kids = m.word(m.IntN(4), deep-1)
		case 5:
			p.Body = m.list(0, deep-1)
		}
	}
	return p
}

func (m *maker) list(least, deep int) []api.Node {
	var l []api.Node
	for range least + m.IntN(2) {
		l = append(l, m.node(deep))
	}
	return l
}

// only is a list of one command, of one of these kinds.
func (m *maker) only(deep int, of ...int) []api.Node {
	if m.odd() {
		return m.list(0, deep)
	}
	return []api.Node{m.nodeOf(pick(m, of...), deep)}
}

func (m *maker) redirs(deep int) []api.Redir {
	var l []api.Redir
	for range max(0, m.IntN(6)-3) {
		r := api.Redir{Fd: m.IntN(100), Kind: 1 + m.IntN(5), Word: m.whole(deep)}
		if m.here && m.IntN(2) == 0 || m.odd() {
			r.Kind, r.Word = api.Here, api.Word{pick(m, single(""), single("a\n"), double(), double(trees.Clean(api.Word{m.piece(2, deep), bare("\n")})...))}
		}
		if m.odd() {
			r.Fd, r.Kind = m.IntN(104)-2, m.IntN(8)
		}
		l = append(l, r)
	}
	return l
}

func (m *maker) node(deep int) api.Node { return m.nodeOf(1+m.IntN(13), deep) }

// nodeOf is a command of a kind; where it is deep enough, a Simple.
func (m *maker) nodeOf(kind, deep int) api.Node {
	if deep <= 0 || deep == 1 && kind == api.Func {
		kind = api.Simple
	}
	n := api.Node{Kind: kind}
	compound := []int{api.Group, api.Sub, api.If, api.While, api.Until, api.For, api.Switch}
	stage := append([]int{api.Simple, api.Func}, compound...)
	add := func(l []api.Node) { n.Lists = append(n.Lists, l) }
	switch kind {
	case api.Simple:
		for range m.IntN(2) {
			n.Sets = append(n.Sets, api.Set{Name: pick(m, "a", "if", "_1"), Word: m.word(0, deep-1)})
		}
		n.Words = m.wholes(1, deep-1)
		if !m.odd() {
			// A first word that is neither reserved nor a name and its value.
			n.Words[0] = pick(m, api.Word{bare("c")}, append(api.Word{double()}, n.Words[0]...))
		}
		if len(n.Sets) > 0 && m.IntN(2) == 0 || m.odd() {
			n.Words = nil
		}
	case api.Pipe:
		n.Bang = m.IntN(2) == 0
		add(m.only(deep-1, stage...))
		for i := m.IntN(3); i > 0 || len(n.Lists) == 1 && !n.Bang && !m.odd(); i-- {
			add(m.only(deep-1, stage...))
		}
	case api.And, api.Or:
		add(m.only(deep-1, append([]int{api.Pipe, api.And, api.Or}, stage...)...))
		add(m.only(deep-1, append(stage, api.Pipe)...))
	case api.Back:
		add(m.only(deep-1, append([]int{api.Pipe, api.And, api.Or}, stage...)...))
	case api.Group, api.Sub:
		add(m.list(1, deep-1))
	case api.If, api.While, api.Until:
		add(m.list(1, deep-1))
		add(m.list(1, deep-1))
		for kind == api.If && m.IntN(2) == 0 {
			add(m.list(1, deep-1))
		}
	case api.For:
		n.Name, n.Given = pick(m, "a", "in"), m.IntN(2) == 0
		if n.Given || m.odd() {
			n.Words = m.wholes(0, deep-1)
		}
		add(m.list(1, deep-1))
	case api.Switch:
		n.Words = []api.Word{m.whole(deep - 1)}
		for range m.IntN(3) {
			n.Cases = append(n.Cases, api.Case{Words: m.wholes(1, deep-1), Body: m.list(0, deep-1)})
		}
	case api.Func:
		n.Name = pick(m, "a", "f")
		add(m.only(deep-1, compound...))
	}
	if kind == api.Simple || kind >= api.Group && kind <= api.Switch {
		n.Redirs = m.redirs(deep - 1)
	}
	if m.odd() {
		m.spoil(&n, deep-1)
	}
	return n
}

// spoil changes one field.
func (m *maker) spoil(n *api.Node, deep int) {
	switch m.IntN(9) {
	case 0:
		n.Kind = m.IntN(16) - 1
	case 1:
		n.Bang = !n.Bang
	case 2:
		n.Name = pick(m, texts...)
	case 3:
		n.Given = !n.Given
	case 4:
		n.Sets = append(n.Sets, api.Set{Name: pick(m, texts...)})
	case 5:
		n.Words = m.wholes(0, deep)
	case 6:
		n.Redirs = m.redirs(deep)
	case 7:
		n.Lists = append(n.Lists, m.list(0, deep))
	case 8:
		n.Cases = append(n.Cases, api.Case{Words: m.wholes(0, deep)})
	}
}

// someLists calls f with lists made up at random, that may be or not.
func someLists(n, wrong int, f func(m *maker, l []api.Node)) {
	m := &maker{Rand: rand.New(rand.NewPCG(12, 39)), wrong: wrong}
	for i := range n {
		m.here = true
		f(m, m.list(1, 1+i%6))
	}
}

// The second reading: what a word has in it, and a command's lists, are told as letters, and these are held against forms.
var (
	commandLetters = "?spaobguiwtfcn"
	forms          = map[string]*regexp.Regexp{
		"s": re(``), "p": re(`(\[[sguiwtfcn]\]){2,}`), "!p": re(`(\[[sguiwtfcn]\])+`), "a": re(`\[[^b]\]\[[^aob]\]`), "o": re(`\[[^b]\]\[[^aob]\]`), "b": re(`\[[^b]\]`),
		"g": re(`\[[^]]+\]`), "u": re(`\[[^]]+\]`), "i": re(`(\[[^]]+\]){2,}`), "w": re(`(\[[^]]+\]){2}`), "t": re(`(\[[^]]+\]){2}`), "f": re(`\[[^]]+\]`), "c": re(``), "n": re(`\[[guiwtfc]\]`),
	}
	fieldsOf = map[string]string{"s": "Sets Words Redirs", "p": "Bang Lists", "a": "Lists", "o": "Lists", "b": "Lists", "g": "Lists Redirs", "u": "Lists Redirs", "i": "Lists Redirs", "w": "Lists Redirs", "t": "Lists Redirs", "f": "Name Given Words Lists Redirs", "c": "Words Cases Redirs", "n": "Name Lists"}
	ownOf    = map[int]string{api.Bare: "Text", api.Single: "Text", api.Double: "Kids", api.Param: "Text Op Colon Kids", api.Command: "Body", api.Math: "Kids"}
	bareIn   = []*regexp.Regexp{re("[^ \t\n;&|<>()$`\\\\\"']+"), re("[^$`\\\\\"'}]+"), re(`(?s).+`), re("[^$`\\\\\"'#]+")}
	aName    = re(`[A-Za-z_][A-Za-z0-9_]*`)
	aParam   = re(`[A-Za-z_][A-Za-z0-9_]*|0|[1-9][0-9]*|[-@*#?$!]`)
	noSet    = regexp.MustCompile(`^[A-Za-z_][A-Za-z0-9_]*=`)
	aText    = re(`(?s)(.*\n)?`)
	keyword  = re(`if|then|else|elif|fi|do|done|while|until|for|case|esac|in|[{}!]`)
)

func re(s string) *regexp.Regexp { return regexp.MustCompile(`^(?:` + s + `)\z`) }

// onlyHas tells whether a struct's fields, but Kind and those named, are zero or empty.
func onlyHas(v reflect.Value, named string) bool {
	for i := range v.NumField() {
		f, name := v.Field(i), v.Type().Field(i).Name
		zero := f.IsZero() || f.Kind() == reflect.Slice && f.Len() == 0
		if name != "Kind" && !zero && !strings.Contains(" "+named+" ", " "+name+" ") {
			return false
		}
	}
	return true
}

func readList(l []api.Node, here bool) bool {
	for _, n := range l {
		if !readNode(n, here) {
			return false
		}
	}
	return true
}

func readNode(n api.Node, here bool) bool {
	if n.Kind < 1 || n.Kind > 13 {
		return false
	}
	kind, shape := commandLetters[n.Kind:n.Kind+1], ""
	for _, l := range n.Lists {
		shape += "["
		for _, c := range l {
			if c.Kind < 1 || c.Kind > 13 {
				return false
			}
			shape += commandLetters[c.Kind : c.Kind+1]
		}
		shape += "]"
		if !readList(l, here) {
			return false
		}
	}
	form := kind
	if n.Bang {
		form = "!" + kind
	}
	if !onlyHas(reflect.ValueOf(n), fieldsOf[kind]) || forms[form] == nil || !forms[form].MatchString(shape) {
		return false
	}
	good := true
	for _, w := range n.Words {
		good = good && readWhole(w)
	}
	for _, s := range n.Sets {
		good = good && aName.MatchString(s.Name) && readWord(s.Word, 0)
	}
	for _, r := range n.Redirs {
		good = good && r.Fd >= 0 && r.Fd <= 99 && r.Kind >= 1 && r.Kind <= 6 && readWhole(r.Word) && (r.Kind != api.Here || here && readText(r.Word))
	}
	for _, c := range n.Cases {
		good = good && len(c.Words) > 0 && readList(c.Body, here)
		for _, w := range c.Words {
			good = good && readWhole(w)
		}
	}
	switch kind {
	case "s":
		if good && len(n.Words) > 0 && n.Words[0][0].Kind == api.Bare {
			s := n.Words[0][0].Text
			good = good && !noSet.MatchString(s) && (len(n.Sets) > 0 || len(n.Words[0]) > 1 || !keyword.MatchString(s))
		}
		good = good && !onlyHas(reflect.ValueOf(n), "")
	case "f":
		good = good && aName.MatchString(n.Name) && (n.Given || len(n.Words) == 0)
	case "c":
		good = good && len(n.Words) == 1
	case "n":
		good = good && aName.MatchString(n.Name) && !keyword.MatchString(n.Name)
	}
	return good
}

func readText(w api.Word) bool {
	if len(w) != 1 {
		return false
	}
	kids := w[0].Kids
	return w[0].Kind == api.Single && aText.MatchString(w[0].Text) || w[0].Kind == api.Double && (len(kids) == 0 || kids[len(kids)-1].Kind == api.Bare && aText.MatchString(kids[len(kids)-1].Text))
}

func readWhole(w api.Word) bool {
	return len(w) > 0 && (w[0].Kind != api.Bare || w[0].Text != "" && w[0].Text[0] != '#') && readWord(w, 0)
}

func readWord(w api.Word, in int) bool {
	row, brackets := "", ""
	for _, p := range w {
		if p.Kind < 1 || p.Kind > 6 || !onlyHas(reflect.ValueOf(p), ownOf[p.Kind]) {
			return false
		}
		row += "?BSDPCM"[p.Kind : p.Kind+1]
		good := true
		switch p.Kind {
		case api.Bare:
			good = bareIn[in].MatchString(p.Text)
			brackets += strings.Map(func(r rune) rune {
				if r == '(' || r == ')' {
					return r
				}
				return -1
			}, p.Text)
		case api.Double:
			good = readWord(p.Kids, 2)
		case api.Param:
			good = readParam(p)
		case api.Command:
			good = readList(p.Body, false)
		case api.Math:
			good = readWord(p.Kids, 3)
		}
		if !good {
			return false
		}
	}
	for strings.Contains(brackets, "()") {
		brackets = strings.ReplaceAll(brackets, "()", "")
	}
	return !strings.Contains(row, "BB") && !strings.Contains(row, "SS") && (in < 2 || !strings.ContainsAny(row, "SD")) && (in != 3 || brackets == "")
}

func readParam(p api.Piece) bool {
	if !aParam.MatchString(p.Text) || p.Op < 0 || p.Op > 9 || strings.Contains("@*#?-$!", p.Text) && p.Op > 0 || p.Colon && (p.Op < 2 || p.Op > 5) {
		return false
	}
	if p.Op < 2 {
		return len(p.Kids) == 0
	}
	if len(p.Kids) > 0 && p.Kids[0].Kind == api.Bare && p.Kids[0].Text != "" {
		switch c := p.Kids[0].Text[0]; {
		case c == '#' && p.Op == api.Head, c == '%' && p.Op == api.Tail:
			return false
		}
	}
	return readWord(p.Kids, 1)
}

// counted is how many commands and pieces a value has, and how many in one another.
func counted(v reflect.Value) (int, int) {
	size, deep := 0, 0
	add := func(v reflect.Value) {
		n, d := counted(v)
		size, deep = size+n, max(deep, d)
	}
	switch v.Kind() {
	case reflect.Slice:
		for i := range v.Len() {
			add(v.Index(i))
		}
	case reflect.Struct:
		for i := range v.NumField() {
			add(v.Field(i))
		}
		if name := v.Type().Name(); name == "Node" || name == "Piece" {
			size, deep = size+1, deep+1
		}
	}
	return size, deep
}

func TestCheckAll_P12_3(t *testing.T) {
	tally := map[api.Errno]int{}
	check := func(_ *maker, l []api.Node) {
		want := api.OK
		if _, deep := counted(reflect.ValueOf(l)); deep > 20 {
			want = api.ErrDeep
		} else if !readList(l, true) {
			want = api.ErrArg
		}
		tally[want]++
		if e := trees.Check(l); e != want {
			t.Fatalf("%v, not %v: %+v", e, want, l)
		}
	}
	someLists(4000, 0, check)
	if tally[api.OK] < 3900 {
		t.Error(tally)
	}
	someLists(15000, 60, check)
	someLists(6000, 5, check)
	if tally[api.OK] < 9000 || tally[api.ErrArg] < 6000 {
		t.Error(tally)
	}
}

// eachPart calls f with each list of a list that may be, and each of its commands, at any depth.
func eachPart(l []api.Node, f func([]api.Node)) {
	f(l)
	for i, n := range l {
		f(l[i : i+1])
		for _, l := range n.Lists {
			eachPart(l, f)
		}
		for _, c := range n.Cases {
			eachPart(c.Body, f)
		}
		for _, w := range n.Words {
			f([]api.Node{behind(w...)})
			for _, p := range w {
				f([]api.Node{behind(p)})
				eachPart(p.Body, f)
			}
		}
		for _, r := range n.Redirs {
			f([]api.Node{{Kind: api.Simple, Redirs: []api.Redir{r}}})
		}
		for _, s := range n.Sets {
			f([]api.Node{{Kind: api.Simple, Sets: []api.Set{s}}})
		}
	}
}

// A part of a list that may be may be; what goes behind a single piece # is a word that is not whole.
func TestParts_P12_4(t *testing.T) {
	someLists(1500, 0, func(_ *maker, l []api.Node) {
		if trees.Check(l) != api.OK {
			return
		}
		eachPart(l, func(part []api.Node) {
			if len(part) == 1 && part[0].Kind == api.Simple && len(part[0].Words) == 2 {
				if w := part[0].Words[1]; w[0].Kind == api.Bare && w[0].Text[0] == '#' {
					return
				}
			}
			if e := trees.Check(part); e != api.OK {
				t.Fatalf("%v of %+v", e, part)
			}
		})
	})
}

func TestMeasuredAll_P12_1(t *testing.T) {
	someLists(3000, 7, func(_ *maker, l []api.Node) {
		size, deep := counted(reflect.ValueOf(l))
		if n, d := trees.Size(l), trees.Deep(l); n != size || d != deep {
			t.Fatal(n, size, d, deep)
		}
	})
}

func TestSameAll_P12_1(t *testing.T) {
	var last []api.Node
	someLists(2000, 20, func(m *maker, l []api.Node) {
		other := lasting(reflect.ValueOf(l)).Interface().([]api.Node)
		if !trees.Same(l, other) || trees.Same(l, last) != reflect.DeepEqual(other, last) {
			t.Fatal(l)
		}
		last = other
		if size, _ := counted(reflect.ValueOf(l)); size > 40 {
			return
		}
		eachChange(reflect.ValueOf(&other).Elem(), func(what string) {
			if trees.Same(l, other) {
				t.Fatal(what, l)
			}
		})
	})
}

// cleanByRows is a second reading of Clean: one thing at a time, till there is no more to do.
func cleanByRows(w api.Word) api.Word {
	w = lasting(reflect.ValueOf(w)).Interface().(api.Word)
	for i := range w {
		w[i].Kids = cleanByRows(w[i].Kids)
	}
	for i := 0; i < len(w); i++ {
		if w[i].Kind == api.Bare && w[i].Text == "" {
			return cleanByRows(append(w[:i:i], w[i+1:]...))
		}
	}
	for i := 1; i < len(w); i++ {
		if k := w[i].Kind; k == w[i-1].Kind && k >= api.Bare && k <= api.Single {
			w[i-1].Text += w[i].Text
			return cleanByRows(append(w[:i:i], w[i+1:]...))
		}
	}
	return w
}

func TestCleanAll_P12_2(t *testing.T) {
	m := &maker{Rand: rand.New(rand.NewPCG(12, 2)), wrong: 3}
	for range 20000 {
		var w api.Word
		for range m.IntN(6) {
			w = append(w, pick(m, bare(""), bare("a"), single(""), single("b"), m.piece(0, 3)))
		}
		if got, want := trees.Clean(w), cleanByRows(w); !trees.Words(got, want) || !trees.Words(trees.Clean(got), got) {
			t.Fatalf("%+v of %+v", got, w)
		}
	}
}
