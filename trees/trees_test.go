package trees_test

import (
	"reflect"
	"slices"
	"strings"
	"testing"

	"whelk/api"
	"whelk/trees"
)

func bare(s string) api.Piece { return api.Piece{Kind: api.Bare, Text: s} }

func single(s string) api.Piece { return api.Piece{Kind: api.Single, Text: s} }

func double(kids ...api.Piece) api.Piece { return api.Piece{Kind: api.Double, Kids: kids} }

func param(name string, op int, kids ...api.Piece) api.Piece {
	return api.Piece{Kind: api.Param, Text: name, Op: op, Kids: kids}
}

func command(body ...api.Node) api.Piece { return api.Piece{Kind: api.Command, Body: body} }

func math(kids ...api.Piece) api.Piece { return api.Piece{Kind: api.Math, Kids: kids} }

// words are words of one Bare piece each.
func words(l ...string) []api.Word {
	var out []api.Word
	for _, s := range l {
		out = append(out, api.Word{bare(s)})
	}
	return out
}

func simple(l ...string) api.Node { return api.Node{Kind: api.Simple, Words: words(l...)} }

// with is a command of lists.
func with(kind int, lists ...[]api.Node) api.Node { return api.Node{Kind: kind, Lists: lists} }

// one is a list of one command of a kind, which may be.
func one(kind int) []api.Node { return []api.Node{sample(kind)} }

// sample is a command of a kind, which may be.
func sample(kind int) api.Node {
	a := []api.Node{simple("a")}
	switch kind {
	case api.Simple:
		return a[0]
	case api.Pipe, api.And, api.Or, api.While, api.Until, api.If:
		return with(kind, a, a)
	case api.For:
		return api.Node{Kind: kind, Name: "x", Lists: [][]api.Node{a}}
	case api.Switch:
		return api.Node{Kind: kind, Words: words("a")}
	case api.Func:
		return api.Node{Kind: kind, Name: "f", Lists: [][]api.Node{{with(api.Group, a)}}}
	}
	return with(kind, a)
}

// full is a list in which each field of each type has something.
func full() []api.Node {
	w := api.Word{{Kind: 1, Text: "t", Op: 2, Colon: true, Kids: []api.Piece{bare("k"), {Kind: 2, Kids: []api.Piece{single("l")}}}, Body: []api.Node{simple("b")}}, double()}
	return []api.Node{{
		Kind: 3, Bang: true, Name: "n", Given: true,
		Sets:   []api.Set{{Name: "s", Word: w}, {Name: "z"}},
		Words:  []api.Word{w, nil},
		Redirs: []api.Redir{{Fd: 4, Kind: 5, Word: w}, {}},
		Lists:  [][]api.Node{{simple("c"), simple("d")}, nil},
		Cases:  []api.Case{{Words: []api.Word{w}, Body: []api.Node{simple("e")}}, {}},
	}, {}}
}

// eachChange calls f with v, which can be set, changed in one thing at a time: each number, text, bool, and each length.
func eachChange(v reflect.Value, f func(what string)) {
	set := func(to reflect.Value, what string) {
		was := reflect.ValueOf(v.Interface())
		v.Set(to)
		f(what)
		v.Set(was)
	}
	switch v.Kind() {
	case reflect.Int:
		set(reflect.ValueOf(int(v.Int()+1)), "a number")
	case reflect.String:
		set(reflect.ValueOf(v.String()+"x"), "a text")
	case reflect.Bool:
		set(reflect.ValueOf(!v.Bool()), "a bool")
	case reflect.Struct:
		for i := range v.NumField() {
			eachChange(v.Field(i), func(what string) { f(v.Type().Field(i).Name + " " + what) })
		}
	case reflect.Slice:
		if v.Len() > 0 {
			set(v.Slice(0, v.Len()-1), "less")
			set(v.Slice(1, v.Len()), "less ahead")
		}
		set(reflect.Append(v.Slice3(0, v.Len(), v.Len()), reflect.Zero(v.Type().Elem())), "more")
		for i := range v.Len() {
			eachChange(v.Index(i), f)
		}
	}
}

func TestSame_P12_1(t *testing.T) {
	a, b := full(), full()
	if !trees.Same(a, b) || !trees.Same(a, a) || !trees.Same(nil, nil) || trees.Same(a, nil) || trees.Same(nil, a) {
		t.Error("full")
	}
	n := 0
	eachChange(reflect.ValueOf(&b).Elem(), func(what string) {
		n++
		if trees.Same(a, b) || trees.Same(b, a) {
			t.Error(what)
		}
	})
	if n < 250 || !trees.Same(a, b) {
		t.Error(n)
	}
	// A word in a list, and a list in a list, are not none.
	if trees.Same([]api.Node{{Words: []api.Word{nil}}}, []api.Node{{}}) || trees.Same([]api.Node{{Lists: [][]api.Node{nil}}}, []api.Node{{}}) {
		t.Error("one that is empty")
	}
	if trees.Same([]api.Node{simple("a"), simple("b")}, []api.Node{simple("b"), simple("a")}) {
		t.Error("order")
	}
}

func TestSameWords_P12_1(t *testing.T) {
	a, b := full()[0].Words[0], full()[0].Words[0]
	if !trees.Words(a, b) || !trees.Words(nil, api.Word{}) || trees.Words(a, nil) || trees.Words(nil, a) {
		t.Error("full")
	}
	n := 0
	eachChange(reflect.ValueOf(&b).Elem(), func(what string) {
		n++
		if trees.Words(a, b) || trees.Words(b, a) {
			t.Error(what)
		}
	})
	if n < 40 || !trees.Words(a, b) {
		t.Error(n)
	}
	if trees.Words(api.Word{bare("ab")}, api.Word{bare("a"), bare("b")}) {
		t.Error("they are not joined")
	}
}

// No list and an empty one are the same.
func TestSameOfNone_P12_1(t *testing.T) {
	none := []api.Node{{Kind: 1, Sets: []api.Set{{}}, Words: []api.Word{nil, {{}}}, Redirs: []api.Redir{{}}, Lists: [][]api.Node{nil}, Cases: []api.Case{{}}}, {}}
	empty := []api.Node{
		{
			Kind: 1, Sets: []api.Set{{Word: api.Word{}}}, Words: []api.Word{{}, {{Kids: []api.Piece{}, Body: []api.Node{}}}}, Redirs: []api.Redir{{Word: api.Word{}}},
			Lists: [][]api.Node{{}}, Cases: []api.Case{{Words: []api.Word{}, Body: []api.Node{}}},
		},
		{Sets: []api.Set{}, Words: []api.Word{}, Redirs: []api.Redir{}, Lists: [][]api.Node{}, Cases: []api.Case{}},
	}
	if !trees.Same(none, empty) || !trees.Same(empty, none) || !trees.Same(nil, []api.Node{}) || !trees.Words(none[0].Words[1], empty[0].Words[1]) {
		t.Error("not the same")
	}
}

func TestMeasured_P12_1(t *testing.T) {
	for i, x := range []struct {
		l          []api.Node
		size, deep int
	}{
		{nil, 0, 0}, {[]api.Node{}, 0, 0}, {[]api.Node{{}}, 1, 1}, {[]api.Node{{}, {}}, 2, 1},
		{[]api.Node{simple("echo", "a")}, 3, 2}, {[]api.Node{simple()}, 1, 1},
		{[]api.Node{{Words: []api.Word{nil, {}}}}, 1, 1}, {[]api.Node{{Lists: [][]api.Node{nil, {}}}}, 1, 1},
		{[]api.Node{{Words: []api.Word{{bare("a"), single("b")}, {bare("c")}}}}, 4, 2},
		{[]api.Node{{Sets: []api.Set{{Name: "x"}, {Word: api.Word{bare("a")}}}}}, 2, 2},
		{[]api.Node{{Redirs: []api.Redir{{}, {Word: api.Word{bare("a"), double(bare("b"))}}}}}, 4, 3},
		{[]api.Node{{Lists: [][]api.Node{{simple("a")}, {simple(), simple()}}}}, 5, 3},
		{[]api.Node{{Cases: []api.Case{{Words: words("a", "b")}, {Body: []api.Node{simple("c")}}, {}}}}, 5, 3},
		{[]api.Node{{Words: []api.Word{{command(simple("a"))}}}}, 4, 4}, {[]api.Node{{Words: []api.Word{{math(bare("a"))}}}}, 3, 3}, {[]api.Node{{Words: []api.Word{{param("x", api.Head, double(bare("a")))}}}}, 4, 4},
		{[]api.Node{{Words: []api.Word{{{Kids: []api.Piece{bare("a")}, Body: []api.Node{simple()}}}}}}, 4, 3},
		{[]api.Node{simple(), with(api.Group, one(api.Group)), simple("a")}, 7, 4},
		{full(), 36, 4},
	} {
		if size, deep := trees.Size(x.l), trees.Deep(x.l); size != x.size || deep != x.deep {
			t.Error(i, size, deep)
		}
	}
}

func TestClean_P12_2(t *testing.T) {
	a := bare("a")
	for i, x := range []struct{ w, want api.Word }{
		{nil, nil}, {api.Word{}, nil}, {api.Word{a}, api.Word{a}}, {api.Word{bare("")}, nil}, {api.Word{bare(""), bare("")}, nil}, {api.Word{single("")}, api.Word{single("")}},
		{api.Word{a, bare("b")}, api.Word{bare("ab")}}, {api.Word{a, bare("b"), bare("c")}, api.Word{bare("abc")}}, {api.Word{single("a"), single("b"), single("")}, api.Word{single("ab")}}, {api.Word{single(""), single("")}, api.Word{single("")}},
		{api.Word{a, single("b"), bare("c"), single("d")}, api.Word{a, single("b"), bare("c"), single("d")}},
		// What has no bytes is gone ahead of what is joined.
		{api.Word{single("a"), bare(""), single("b")}, api.Word{single("ab")}}, {api.Word{bare(""), single("a"), bare(""), bare(""), single("b"), bare("")}, api.Word{single("ab")}}, {api.Word{a, bare(""), bare("b")}, api.Word{bare("ab")}},
		{api.Word{a, single(""), bare("b")}, api.Word{a, single(""), bare("b")}},
		// Others are never joined.
		{api.Word{double(), double()}, api.Word{double(), double()}}, {api.Word{param("x", 0), bare(""), param("x", 0)}, api.Word{param("x", 0), param("x", 0)}}, {api.Word{math(), math()}, api.Word{math(), math()}}, {api.Word{command(), command()}, api.Word{command(), command()}}, {api.Word{{}, {}, {Kind: 9}, {Kind: 9}}, api.Word{{}, {}, {Kind: 9}, {Kind: 9}}},
		// The Kids of all.
		{api.Word{double(a, bare("b"), bare(""))}, api.Word{double(bare("ab"))}}, {api.Word{double(bare(""))}, api.Word{double()}}, {api.Word{math(bare("1"), bare("+"))}, api.Word{math(bare("1+"))}},
		{api.Word{param("x", api.Default, single("a"), bare(""), double(param("y", api.Alter, a, a)), single("b"))}, api.Word{param("x", api.Default, single("a"), double(param("y", api.Alter, bare("aa"))), single("b"))}},
		{api.Word{{Kind: 9, Kids: []api.Piece{a, a}}, {Kind: api.Command, Kids: []api.Piece{bare("")}}}, api.Word{{Kind: 9, Kids: []api.Piece{bare("aa")}}, command()}},
		// A Body stays.
		{api.Word{command(api.Node{Kind: api.Simple, Words: []api.Word{{a, bare(""), a}}})}, api.Word{command(api.Node{Kind: api.Simple, Words: []api.Word{{a, bare(""), a}}})}}, {api.Word{command(full()...), bare("")}, api.Word{command(full()...)}},
		// It is the first one, with both's Text.
		{api.Word{{Kind: api.Bare, Text: "a", Op: 1, Colon: true, Kids: []api.Piece{a, a}, Body: full()}, {Kind: api.Bare, Text: "b", Op: 2, Kids: []api.Piece{bare("x")}, Body: []api.Node{{}}}}, api.Word{{Kind: api.Bare, Text: "ab", Op: 1, Colon: true, Kids: []api.Piece{bare("aa")}, Body: full()}}},
		{api.Word{{Kind: api.Bare, Op: 1, Kids: []api.Piece{a}}, {Kind: api.Single, Text: "b", Op: 3}, {Kind: api.Bare, Body: full()}, {Kind: api.Single, Text: "c", Colon: true}}, api.Word{{Kind: api.Single, Text: "bc", Op: 3}}},
		{api.Word{{Text: "t", Op: 7, Colon: true}, {Kind: api.Param, Text: ""}}, api.Word{{Text: "t", Op: 7, Colon: true}, {Kind: api.Param}}},
	} {
		if got := trees.Clean(x.w); !trees.Words(got, x.want) {
			t.Error(i, got)
		}
	}
}

func TestParameter_P12_3(t *testing.T) {
	for _, s := range []string{"a", "_", "Z", "a1", "_1_", "ab_C9", "0", "1", "9", "10", "909", strings.Repeat("9", 5000), strings.Repeat("x", 5000), "@", "*", "#", "?", "-", "$", "!"} {
		if !trees.Parameter(s) {
			t.Error(s)
		}
	}
	for _, s := range []string{"", "00", "01", "007", "1a", "0a", "a-", "-a", "-1", "+1", " ", "a ", " a", "1 ", "@@", "##", "$$", "@*", "#?", "a.b", "1.0", "a\n", "\xff", "a\xff", "é", "\u0661", "~", "%", "=", "+", ":", "{", "[", "\x00"} {
		if trees.Parameter(s) {
			t.Errorf("%q", s)
		}
	}
	for c := range 256 {
		s := string([]byte{byte(c)})
		want := strings.Contains("0123456789_@*#?-$!abcdefghijklmnopqrstuvwxyzABCDEFGHIJKLMNOPQRSTUVWXYZ", s)
		if trees.Parameter(s) != want {
			t.Errorf("%q", s)
		}
	}
}

// What is cleaned is cleaned once for all, and says the same bytes.
func TestCleanAgain_P12_4(t *testing.T) {
	pieces := []api.Piece{bare(""), bare("a"), bare("b"), single(""), single("c"), double(), double(bare(""), bare("d"), bare("")), param("x", 0)}
	var try func(w api.Word)
	try = func(w api.Word) {
		got := trees.Clean(w)
		if !trees.Words(trees.Clean(got), got) {
			t.Fatal(w, got)
		}
		if said(got) != said(w) {
			t.Fatal(w, got)
		}
		if len(w) < 5 {
			for _, p := range pieces {
				try(append(slices.Clone(w), p))
			}
		}
	}
	try(nil)
}

// said is a word's bytes, each that is quoted behind a `\`, and what else there is.
func said(w api.Word) string {
	out := ""
	for _, p := range w {
		switch p.Kind {
		case api.Bare:
			out += p.Text
		case api.Single:
			for _, c := range p.Text {
				out += `\` + string(c)
			}
		default:
			out += "<" + p.Text + said(p.Kids) + ">"
		}
	}
	return out
}

// lasting is a deep copy of a list, made by the test itself.
func lasting(v reflect.Value) reflect.Value {
	out := reflect.New(v.Type()).Elem()
	switch v.Kind() {
	case reflect.Slice:
		for i := range v.Len() {
			out = reflect.Append(out, lasting(v.Index(i)))
		}
	case reflect.Struct:
		for i := range v.NumField() {
			out.Field(i).Set(lasting(v.Field(i)))
		}
	default:
		out.Set(v)
	}
	return out
}

// scribble writes into all that a value has, also behind the lengths.
func scribble(v reflect.Value) {
	switch v.Kind() {
	case reflect.Slice:
		v = v.Slice(0, v.Cap())
		for i := range v.Len() {
			scribble(v.Index(i))
		}
	case reflect.Struct:
		for i := range v.NumField() {
			scribble(v.Field(i))
		}
	case reflect.String:
		v.SetString("scribbled")
	case reflect.Int:
		v.SetInt(77)
	}
}

func TestAnswersAreNew_R2(t *testing.T) {
	shared := []api.Piece{bare("a"), bare("b")}
	fresh := func() api.Word {
		return api.Word{{Kind: api.Double, Kids: shared, Body: full()}, {Kind: api.Command, Kids: shared, Body: full()}, bare("x"), bare(""), {Kind: api.Bare, Text: "y", Kids: shared}, full()[0].Words[0][0]}
	}
	w := fresh()
	was := lasting(reflect.ValueOf(w)).Interface().(api.Word)
	got := trees.Clean(w)
	if !reflect.DeepEqual(lasting(reflect.ValueOf(w)).Interface(), any(was)) {
		t.Error("it is written into")
	}
	want := lasting(reflect.ValueOf(got)).Interface().(api.Word)
	scribble(reflect.ValueOf(w))
	if !trees.Words(got, want) {
		t.Error("the answer shares what was handed in")
	}
	shared = []api.Piece{bare("a"), bare("b")}
	w = fresh()
	got = trees.Clean(w)
	scribble(reflect.ValueOf(got))
	if !trees.Words(w, was) {
		t.Error("what was handed in shares the answer")
	}
	// One list in two places is two lists in the answer.
	body := []api.Node{simple("a")}
	got = trees.Clean(api.Word{double(shared...), double(shared...), command(body...), command(body[0], body[0])})
	got[0].Kids[0].Text, got[2].Body[0].Words[0][0].Text, got[3].Body[0].Words[0][0].Text = "x", "y", "z"
	if got[1].Kids[0].Text != "ab" || got[3].Body[1].Words[0][0].Text != "a" || got[3].Body[0].Words[0][0].Text != "z" || got[2].Body[0].Words[0][0].Text != "y" {
		t.Error(got)
	}
}

// What stands behind the length of what is handed in stays as it is.
func TestBehindTheLength_R2(t *testing.T) {
	all := api.Word{bare("a"), bare("b"), single("c"), single("d")}
	kids := []api.Piece{bare("k"), bare("l"), bare("m")}
	all[1] = double(kids[:1]...)
	all[1].Kids = kids[:2]
	if got := trees.Clean(all[:2]); len(got) != 2 || got[1].Kids[0].Text != "kl" {
		t.Error(got)
	}
	if all[2].Text != "c" || all[3].Text != "d" || kids[2].Text != "m" || kids[0].Text != "k" {
		t.Error(all, kids)
	}
}

// Calls come to their end where as much is in one another as there may be.
func TestDeep_Limits(t *testing.T) {
	const most = 1 << 16
	word := api.Word{bare("a"), bare("b")}
	for range most / 2 {
		word = api.Word{{Kind: api.Command, Kids: word, Body: nil}}
	}
	list := []api.Node{simple("a")}
	for range most / 2 {
		list = []api.Node{with(api.Group, list)}
	}
	if n := trees.Deep(list); n != most/2+2 || trees.Size(list) != n {
		t.Error(n)
	}
	if !trees.Same(list, list) || !trees.Words(word, word) || trees.Check(list) != api.ErrDeep {
		t.Error("the same")
	}
	if got := trees.Clean(append(word, command(list...))); len(got) != 2 || trees.Deep(got[1].Body) != most/2+2 {
		t.Error(len(got))
	}
	if e := trees.Check([]api.Node{{Kind: api.Simple, Words: []api.Word{word}}}); e != api.ErrDeep {
		t.Error(e)
	}
}

// Many neighbours are no burden.
func TestWide_Limits(t *testing.T) {
	var word api.Word
	for range 1 << 18 {
		word = append(word, bare("a"), bare(""), bare("b"))
	}
	if got := trees.Clean(word); len(got) != 1 || len(got[0].Text) != 1<<19 {
		t.Error(len(got))
	}
	if n := trees.Size([]api.Node{{Words: []api.Word{word}}}); n != 3<<18+1 {
		t.Error(n)
	}
}
