package writer_test

import (
	"testing"

	"whelk/api"
)

// The chapter's examples.
func TestExamples_P14_1(t *testing.T) {
	a, b, c := simple("a"), simple("b"), simple("c")
	writes(t, "a 'b c'\n", api.Node{Kind: api.Simple, Words: []api.Word{{bare("a")}, {single("b c")}}})
	writes(t, "a && b | c\n", pair(api.And, a, pair(api.Pipe, b, c)))
	writes(t, "cat 0<<'E'\nx\nE\n", cat(single("x\n")))
	spells(t, "${x%*}", param("x", api.Tail, bare("*")))
}

func TestLists_P14_1(t *testing.T) {
	writes(t, "")
	writes(t, "a\n", simple("a"))
	writes(t, "a b\nc\na b\n", simple("a", "b"), simple("c"), simple("a", "b"))
}

func TestSimple_P14_1(t *testing.T) {
	set := func(name string, l ...api.Piece) api.Set { return api.Set{Name: name, Word: l} }
	out := redir(1, api.Out, bare("f"))
	for want, n := range map[string]api.Node{
		"a": simple("a"), "a b '' c": {Kind: api.Simple, Words: []api.Word{{bare("a")}, {bare("b")}, {single("")}, {bare("c")}}}, "a if } ! 2 x=1": simple("a", "if", "}", "!", "2", "x=1"),
		"x=": {Kind: api.Simple, Sets: []api.Set{set("x")}}, "x=1 _y= if=#a": {Kind: api.Simple, Sets: []api.Set{set("x", bare("1")), set("_y"), set("if", bare("#a"))}},
		"x==a": {Kind: api.Simple, Sets: []api.Set{set("x", bare("=a"))}}, "x=a'b'\"c\"": {Kind: api.Simple, Sets: []api.Set{set("x", bare("a"), single("b"), double(bare("c")))}},
		"x= a": {Kind: api.Simple, Sets: []api.Set{set("x")}, Words: words("a")}, "x=1 if a": {Kind: api.Simple, Sets: []api.Set{set("x", bare("1"))}, Words: words("if", "a")},
		"1>f": {Kind: api.Simple, Redirs: []api.Redir{out}}, "x= 1>f": {Kind: api.Simple, Sets: []api.Set{set("x")}, Redirs: []api.Redir{out}}, "a 1>f 1>f": to(simple("a"), out, out), "a 2 1>f": to(simple("a", "2"), out),
		"x=1 y=2 a b 1>f 2>&1": {Kind: api.Simple, Sets: []api.Set{set("x", bare("1")), set("y", bare("2"))}, Words: words("a", "b"), Redirs: []api.Redir{out, redir(2, api.Dup, bare("1"))}}, "'if'": say(single("if")), "if''": say(bare("if"), single("")), "''x=1": say(single(""), bare("x=1")), "x'='": say(bare("x"), single("=")),
	} {
		writes(t, want+"\n", n)
	}
	refuses(t, api.ErrArg, "nothing", api.Node{Kind: api.Simple})
	refuses(t, api.ErrArg, "a word without bytes", simple("a", ""))
	refuses(t, api.ErrArg, "a comment", simple("a", "#b"))
	refuses(t, api.ErrArg, "a reserved word", simple("if"))
	refuses(t, api.ErrArg, "a name=word", simple("x=1"))
}

func TestRedirections_P14_1(t *testing.T) {
	marks := []string{"<", ">", ">>", "<>", ">&"}
	for i, mark := range marks {
		kind := api.In + i
		writes(t, "a 0"+mark+"f\n", to(simple("a"), redir(0, kind, bare("f"))))
		writes(t, "a 1"+mark+"f 99"+mark+"g\n", to(simple("a"), redir(1, kind, bare("f")), redir(99, kind, bare("g"))))
		writes(t, "a 10"+mark+"1 7"+mark+"- 3"+mark+"if\n", to(simple("a"), redir(10, kind, bare("1")), redir(7, kind, bare("-")), redir(3, kind, bare("if"))))
		writes(t, "0"+mark+"'a b'\"c\"${x}\n", to(api.Node{Kind: api.Simple}, redir(0, kind, single("a b"), double(bare("c")), param("x", api.Value))))
		writes(t, "(\na\n) 5"+mark+"f\n", to(of(api.Sub, list(simple("a"))), redir(5, kind, bare("f"))))
	}
	for _, r := range []api.Redir{redir(-1, api.In, bare("f")), redir(100, api.In, bare("f")), redir(0, 0, bare("f")), redir(0, 7, bare("f")), redir(0, api.In), redir(0, api.In, bare("#")), redir(0, api.Here, bare("f"))} {
		refuses(t, api.ErrArg, r, to(simple("a"), r))
	}
}

func TestPipes_P14_1(t *testing.T) {
	a, b, c := simple("a"), simple("b"), simple("c", "d")
	writes(t, "a | b\n", pair(api.Pipe, a, b))
	writes(t, "a | b | c d\n", pair(api.Pipe, a, b, c))
	writes(t, "! a\n", bang(pair(api.Pipe, a)))
	writes(t, "! a | c d\n", bang(pair(api.Pipe, a, c)))
	writes(t, "! {\na\n} 1>f | (\nb\n)\n", bang(pair(api.Pipe, to(of(api.Group, list(a)), redir(1, api.Out, bare("f"))), of(api.Sub, list(b)))))
	writes(t, "f()\n{\na\n} | b\n", pair(api.Pipe, function("f", of(api.Group, list(a))), b))
	writes(t, "! 1>f\n", bang(pair(api.Pipe, to(api.Node{Kind: api.Simple}, redir(1, api.Out, bare("f"))))))
	refuses(t, api.ErrArg, "one", pair(api.Pipe, a))
	refuses(t, api.ErrArg, "a Back", pair(api.Pipe, a, pair(api.Back, b)))
	refuses(t, api.ErrArg, "two of one list", of(api.Pipe, list(a), list(b, c)))
}

func TestPairs_P14_1(t *testing.T) {
	a, b, c := simple("a"), simple("b"), simple("c")
	for kind, mark := range map[int]string{api.And: " && ", api.Or: " || "} {
		writes(t, "a"+mark+"b\n", pair(kind, a, b))
		writes(t, "a && b"+mark+"c\n", pair(kind, pair(api.And, a, b), c))
		writes(t, "a || b"+mark+"c\n", pair(kind, pair(api.Or, a, b), c))
		writes(t, "! a"+mark+"! b | c\n", pair(kind, bang(pair(api.Pipe, a)), bang(pair(api.Pipe, b, c))))
		writes(t, "(\na\n)"+mark+"{\nb\n}\n", pair(kind, of(api.Sub, list(a)), of(api.Group, list(b))))
		refuses(t, api.ErrArg, "a Back ahead", pair(kind, pair(api.Back, a), b))
		refuses(t, api.ErrArg, "a pair behind", pair(kind, a, pair(kind, b, c)))
		refuses(t, api.ErrArg, "three", pair(kind, a, b, c))
	}
}

func TestBack_P14_1(t *testing.T) {
	a, b := simple("a"), simple("b")
	writes(t, "a &\n", pair(api.Back, a))
	writes(t, "a &\nb &\n", pair(api.Back, a), pair(api.Back, b))
	writes(t, "a && b &\n", pair(api.Back, pair(api.And, a, b)))
	writes(t, "! a | b &\n", pair(api.Back, bang(pair(api.Pipe, a, b))))
	writes(t, "{\na &\n} 1>f &\n", pair(api.Back, to(of(api.Group, list(pair(api.Back, a))), redir(1, api.Out, bare("f")))))
	refuses(t, api.ErrArg, "of a Back", pair(api.Back, pair(api.Back, a)))
}

func TestGroups_P14_1(t *testing.T) {
	a, b := simple("a"), simple("b")
	out, in := redir(1, api.Out, bare("f")), redir(0, api.In, bare("g"))
	for kind, marks := range map[int][2]string{api.Group: {"{", "}"}, api.Sub: {"(", ")"}} {
		begin, end := marks[0], marks[1]
		writes(t, begin+"\na\n"+end+"\n", of(kind, list(a)))
		writes(t, begin+"\na\nb &\n"+end+"\na\n", of(kind, list(a, pair(api.Back, b))), a)
		writes(t, begin+"\n"+begin+"\n(\na\n)\n"+end+"\nb\n"+end+"\n", of(kind, list(of(kind, list(of(api.Sub, list(a)))), b)))
		writes(t, begin+"\na\n"+end+" 1>f 0<g\n", to(of(kind, list(a)), out, in))
		refuses(t, api.ErrArg, "an empty one", of(kind, nil))
		refuses(t, api.ErrArg, "two", of(kind, list(a), list(b)))
	}
}

func TestIf_P14_1(t *testing.T) {
	l := func(s ...string) []api.Node {
		var out []api.Node
		for _, x := range s {
			out = append(out, simple(x))
		}
		return out
	}
	out := redir(1, api.Out, bare("f"))
	writes(t, "if\na\nthen\nb\nfi\n", of(api.If, l("a"), l("b")))
	writes(t, "if\na\nthen\nb\nelse\nc\nfi\n", of(api.If, l("a"), l("b"), l("c")))
	writes(t, "if\na\nthen\nb\nelif\nc\nthen\nd\nfi\n", of(api.If, l("a"), l("b"), l("c"), l("d")))
	writes(t, "if\na\nthen\nb\nelif\nc\nthen\nd\nelse\ne\nfi\n", of(api.If, l("a"), l("b"), l("c"), l("d"), l("e")))
	writes(t, "if\na\nthen\nb\nelif\nc\nthen\nd\nelif\ne\nthen\ng\nelse\nh\ni\nfi 1>f\n", to(of(api.If, l("a"), l("b"), l("c"), l("d"), l("e"), l("g"), l("h", "i")), out))
	writes(t, "if\na\nb\nthen\nc\nd\nfi 1>f 1>f\n", to(of(api.If, l("a", "b"), l("c", "d")), out, out))
	refuses(t, api.ErrArg, "one", of(api.If, l("a")))
	refuses(t, api.ErrArg, "an empty one", of(api.If, l("a"), nil))
}

func TestLoops_P14_1(t *testing.T) {
	a, b := simple("a"), simple("b")
	out, in := redir(1, api.Out, bare("f")), redir(0, api.In, bare("g"))
	for kind, word := range map[int]string{api.While: "while", api.Until: "until"} {
		writes(t, word+"\na\ndo\nb\ndone\n", of(kind, list(a), list(b)))
		writes(t, word+"\na\nb &\ndo\nb\na\ndone 1>f 0<g\n", to(of(kind, list(a, pair(api.Back, b)), list(b, a)), out, in))
		refuses(t, api.ErrArg, "one", of(kind, list(a)))
		refuses(t, api.ErrArg, "three", of(kind, list(a), list(a), list(b)))
	}
	writes(t, "for x\ndo\na\ndone\n", each("x", false, nil, a))
	writes(t, "for x in\ndo\na\nb\ndone\n", each("x", true, nil, a, b))
	writes(t, "for x in a\ndo\nb\ndone\n", each("x", true, words("a"), b))
	writes(t, "for in in in do 1 x=2 'c d'\ndo\na\ndone 1>f 0<g\n", to(each("in", true, append(words("in", "do", "1", "x=2"), api.Word{single("c d")}), a), out, in))
	writes(t, "for do\ndo\na\ndone\n", each("do", false, nil, a))
	refuses(t, api.ErrArg, "no name", each("1", true, nil, a))
	refuses(t, api.ErrArg, "words without Given", each("x", false, words("a"), a))
	refuses(t, api.ErrArg, "nothing to do", each("x", true, nil))
}

func TestSwitch_P14_1(t *testing.T) {
	a, b := simple("a"), simple("b")
	out, in := redir(1, api.Out, bare("f")), redir(0, api.In, bare("g"))
	w := api.Word{bare("w")}
	writes(t, "case w in\nesac\n", choice(w))
	writes(t, "case in in\nesac 1>f 0<g\n", to(choice(api.Word{bare("in")}), out, in))
	writes(t, "case w in\n(a)\na\n;;\nesac\n", choice(w, inCase(words("a"), a)))
	writes(t, "case w in\n(a)\n;;\nesac\n", choice(w, inCase(words("a"))))
	writes(t, "case ${x}y in\n(a|*|esac)\na\nb &\n;;\n(2|if)\n;;\n('b c'|[a]?)\nb\n;;\nesac 1>f\n",
		to(choice(api.Word{param("x", api.Value), bare("y")}, inCase(words("a", "*", "esac"), a, pair(api.Back, b)), inCase(words("2", "if")), inCase([]api.Word{{single("b c")}, {bare("[a]?")}}, b)), out))
	refuses(t, api.ErrArg, "no word", api.Node{Kind: api.Switch})
	refuses(t, api.ErrArg, "no pattern", choice(w, inCase(nil, a)))
}

func TestFunc_P14_1(t *testing.T) {
	a := list(simple("a"))
	out := redir(1, api.Out, bare("f"))
	for want, n := range map[string]api.Node{
		"{\na\n}": of(api.Group, a), "(\na\n)": of(api.Sub, a), "if\na\nthen\na\nfi": of(api.If, a, a), "while\na\ndo\na\ndone": of(api.While, a, a), "until\na\ndo\na\ndone": of(api.Until, a, a),
		"for f in f\ndo\na\ndone": each("f", true, words("f"), a...), "case f in\n(f)\na\n;;\nesac": choice(api.Word{bare("f")}, inCase(words("f"), a...)),
	} {
		writes(t, "f()\n"+want+"\n", function("f", n))
		writes(t, "_g1()\n"+want+" 1>f 1>f &\na\n", pair(api.Back, function("_g1", to(n, out, out))), a[0])
		writes(t, "f()\n{\nf()\n"+want+"\n}\n", function("f", of(api.Group, list(function("f", n)))))
	}
	refuses(t, api.ErrArg, "a Simple", function("f", a[0]))
	refuses(t, api.ErrArg, "a Func", function("f", function("f", of(api.Group, a))))
	refuses(t, api.ErrArg, "a reserved name", function("if", of(api.Group, a)))
}
