package trees_test

import (
	"slices"
	"strings"
	"testing"

	"whelk/api"
	"whelk/trees"
)

var (
	kinds    = []int{api.Simple, api.Pipe, api.And, api.Or, api.Back, api.Group, api.Sub, api.If, api.While, api.Until, api.For, api.Switch, api.Func}
	reserved = []string{"if", "then", "else", "elif", "fi", "do", "done", "while", "until", "for", "case", "esac", "in", "{", "}", "!"}
)

// may holds what Check tells of a list of that command alone against what is asked.
func may(t *testing.T, want bool, what any, n api.Node) {
	t.Helper()
	if e := trees.Check([]api.Node{n}); (e == api.OK) != want || e != api.OK && e != api.ErrArg {
		t.Errorf("%v: %v of %v", what, e, n)
	}
}

// behind is a Simple of the word a and of w.
func behind(w ...api.Piece) api.Node {
	return api.Node{Kind: api.Simple, Words: []api.Word{{bare("a")}, w}}
}

// places are what puts pieces into each place: bare, in a ${}, in quotes, in an expression.
func places() []func(...api.Piece) api.Node {
	return []func(...api.Piece) api.Node{
		behind,
		func(l ...api.Piece) api.Node { return behind(param("x", api.Default, l...)) },
		func(l ...api.Piece) api.Node { return behind(double(l...)) },
		func(l ...api.Piece) api.Node { return behind(math(l...)) },
	}
}

func TestCheckLists_P12_3(t *testing.T) {
	for i, x := range []struct {
		l    []api.Node
		want api.Errno
	}{
		{nil, api.OK}, {[]api.Node{}, api.OK}, {[]api.Node{simple("echo", "a")}, api.OK}, {[]api.Node{simple("a"), simple("b")}, api.OK},
		{[]api.Node{simple("a"), {}}, api.ErrArg}, {[]api.Node{{}, simple("a")}, api.ErrArg}, {full(), api.ErrArg},
	} {
		if e := trees.Check(x.l); e != x.want {
			t.Error(i, e)
		}
	}
	for _, kind := range kinds {
		may(t, true, kind, sample(kind))
	}
	for _, kind := range []int{0, -1, 14, 15, 1 << 40, -1 << 60} {
		may(t, false, kind, api.Node{Kind: kind})
		may(t, false, kind, api.Node{Kind: kind, Words: words("a")})
		may(t, false, kind, with(kind, one(api.Simple)))
	}
}

func TestCheckDeep_P12_3(t *testing.T) {
	inGroups := func(n int, l ...api.Node) []api.Node {
		for range n {
			l = []api.Node{with(api.Group, l)}
		}
		return l
	}
	inDoubles := func(n int) []api.Node {
		w := []api.Piece{bare("a")}
		for i := range n {
			if i%2 == 0 {
				w = []api.Piece{param("x", api.Default, w...)}
			} else {
				w = []api.Piece{double(w...)}
			}
		}
		return []api.Node{{Kind: api.Simple, Words: []api.Word{w}}}
	}
	for i, x := range []struct {
		l    []api.Node
		want api.Errno
	}{
		{inGroups(18, simple("a")), api.OK}, {inGroups(19, simple("a")), api.ErrDeep}, {inGroups(30, simple("a")), api.ErrDeep},
		{inDoubles(18), api.OK}, {inDoubles(19), api.ErrDeep}, {inDoubles(200), api.ErrDeep},
		{inGroups(18, behind()), api.ErrArg},
		// ErrDeep is named first, be it ahead of what may not be or behind.
		{slices.Concat([]api.Node{{}}, inGroups(19, simple("a"))), api.ErrDeep}, {slices.Concat(inGroups(19, simple("a")), []api.Node{{}}), api.ErrDeep}, {inGroups(19, simple("")), api.ErrDeep}, {inGroups(20, api.Node{}), api.ErrDeep}, {inGroups(19, api.Node{}), api.ErrArg},
		// It counts in fields that a kind has not, too.
		{[]api.Node{{Kind: api.Simple, Words: words("a"), Cases: []api.Case{{Body: inGroups(18, simple("a"))}}}}, api.ErrDeep}, {[]api.Node{{Kind: api.Simple, Words: words("a"), Cases: []api.Case{{Body: inGroups(17, simple("a"))}}}}, api.ErrArg},
		{[]api.Node{{Kind: api.Simple, Words: words("a"), Redirs: []api.Redir{{Kind: api.In, Word: inDoubles(19)[0].Words[0]}}}}, api.ErrDeep}, {[]api.Node{{Kind: api.Simple, Sets: []api.Set{{Name: "x", Word: inDoubles(19)[0].Words[0]}}}}, api.ErrDeep}, {[]api.Node{{Kind: api.Switch, Words: words("a"), Cases: []api.Case{{Words: []api.Word{inDoubles(19)[0].Words[0]}}}}}, api.ErrDeep},
	} {
		if e := trees.Check(x.l); e != x.want {
			t.Error(i, e)
		}
	}
	// What is far too deep, or in itself, is ErrDeep without going to its end.
	around := []api.Node{with(api.Group, nil)}
	around[0].Lists[0] = around
	if e := trees.Check(around); e != api.ErrDeep {
		t.Error(e)
	}
	kids := []api.Piece{double()}
	kids[0].Kids = kids
	if e := trees.Check([]api.Node{behind(kids...)}); e != api.ErrDeep {
		t.Error(e)
	}
}

func TestCheckBare_P12_3(t *testing.T) {
	barred := []string{" \t\n;&|<>()$`\\\"'", "$`\\\"'}", "", "$`\\\"'#()"}
	for i, in := range places() {
		may(t, false, "no bytes", in(bare("")))
		for c := range 256 {
			s := string([]byte{byte(c)})
			ok := !strings.Contains(barred[i], s)
			may(t, ok, i, in(bare("x"+s+"y")))
			may(t, ok, i, in(bare(strings.Repeat("x", 300)+s)))
			may(t, ok && !(i == 0 && s == "#"), i, in(bare(s)))
		}
	}
	// An expression's brackets: none is closed that was not opened, all are closed.
	for s, ok := range map[string]bool{"()": true, "a(b)c": true, "(())": true, "()()": true, "(": false, ")": false, ")(": false, "())": false, "(()": false, "())(": false} {
		may(t, ok, s, behind(math(bare(s))))
		x := param("x", api.Value)
		may(t, ok, s, behind(math(bare("1"), x, bare(s))))
		may(t, ok, s, behind(double(math(bare(s), x, bare("1")))))
		if len(s) > 1 {
			may(t, ok, s, behind(math(bare(s[:1]), x, bare(s[1:]))))
			may(t, ok, s, behind(math(bare(s[:1]), math(), bare(s[1:]))))
		}
	}
	may(t, true, "brackets within", behind(math(param("x", api.Default, bare("(")), bare("1"), param("x", api.Default, bare(")")))))
	may(t, false, "brackets within", behind(math(bare("("), math(bare(")")))))
	may(t, false, "brackets within", behind(math(bare("("), param("x", api.Default, bare(")")))))
}

func TestCheckPieces_P12_3(t *testing.T) {
	all := map[string]api.Piece{"S": single("$`'\"\\\n"), "s": single(""), "D": double(), "P": param("x", api.Value), "C": command(), "M": math(), "B": bare("b"), "d": double(bare("a")), "m": math(bare("1")), "c": command(simple("a"))}
	for i, in := range places() {
		for s, p := range all {
			inside := strings.Contains("BPCMmc", s)
			may(t, inside || i < 2, s, in(p))
			for r, q := range all {
				ok := (inside && strings.Contains("BPCMmc", r) || i < 2) && !(s == "B" && r == "B") && !(strings.Contains("Ss", s) && strings.Contains("Ss", r))
				may(t, ok, s+r, in(p, q))
				may(t, ok && !strings.Contains("BSs", s), s+s+r, in(p, p, q))
			}
		}
		for _, kind := range []int{0, -1, 7, 8, 1 << 40} {
			may(t, false, kind, in(api.Piece{Kind: kind}))
			may(t, false, kind, in(api.Piece{Kind: kind, Text: "a"}))
		}
	}
}

// A piece has no fields but those of its kind.
func TestCheckPieceFields_P12_3(t *testing.T) {
	fields := []func(p *api.Piece){
		func(p *api.Piece) { p.Text += "x" }, func(p *api.Piece) { p.Op = api.Alter }, func(p *api.Piece) { p.Colon = true },
		func(p *api.Piece) { p.Kids = []api.Piece{bare("k")} }, func(p *api.Piece) { p.Body = []api.Node{simple("a")} },
	}
	for i, p := range []api.Piece{bare("b"), single("s"), double(), param("p", api.Default), command(), math()} {
		own := []string{"t", "t", "k", "tock", "b", "k"}[i]
		for j, change := range fields {
			q := p
			change(&q)
			may(t, strings.Contains(own, "tockb"[j:j+1]) || j == 2 && i == 3, own, behind(q))
		}
		for _, op := range []int{-1, 1, 9, 10} {
			q := p
			q.Op = op
			may(t, i == 3 && op > 0 && op < 10, op, behind(q))
		}
		empty := p
		empty.Kids, empty.Body = []api.Piece{}, []api.Node{}
		may(t, true, "empty lists", behind(empty))
	}
}

func TestCheckParams_P12_3(t *testing.T) {
	for _, op := range []int{-1, api.Value, api.Length, api.Default, api.Assign, api.Alter, api.Need, api.Head, api.Heads, api.Tail, api.Tails, 10, 1 << 40} {
		known := op >= api.Value && op <= api.Tails
		for _, name := range []string{"x", "_9", "0", "1", "10", "@", "*", "#", "?", "-", "$", "!", "", "01", "1a", "a-", "##", " "} {
			ok := known && trees.Parameter(name) && (op == api.Value || !strings.Contains("@*#?-$!", name))
			may(t, ok, name, behind(param(name, op)))
			may(t, ok, name, behind(double(param(name, op))))
			may(t, ok, name, behind(math(param(name, op))))
			may(t, ok && op > api.Length, name, behind(param(name, op, bare("a"))))
			colon := param(name, op)
			colon.Colon = true
			may(t, ok && op > api.Length && op < api.Head, name, behind(colon))
			colon.Kids = []api.Piece{bare("#")}
			may(t, ok && op > api.Length && op < api.Head, name, behind(colon))
		}
		plain := known && op > api.Length
		for _, w := range []string{"#", "#a", "##"} {
			may(t, plain && op != api.Head, w, behind(param("x", op, bare(w))))
			may(t, plain && op != api.Head, w, behind(param("x", op, bare(w), single("q"))))
			may(t, plain, w, behind(param("x", op, single(w), bare(w))))
			may(t, plain, w, behind(param("x", op, bare("a"+w))))
			may(t, plain, w, behind(param("x", op, double(bare(w)))))
		}
		for _, w := range []string{"%", "%a", "%%"} {
			may(t, plain && op != api.Tail, w, behind(param("x", op, bare(w))))
			may(t, plain && op != api.Tail, w, behind(double(param("x", op, bare(w)))))
			may(t, plain, w, behind(param("x", op, single(""), bare(w))))
			may(t, plain, w, behind(param("x", op, bare("a"+w))))
		}
		// Their Kids are as in a ${}, be they themselves in quotes or in an expression.
		for _, p := range []api.Piece{single("$"), double(bare("a b")), bare(" ;&|<>()\t\n"), command(), math()} {
			may(t, plain, p, behind(param("x", op, p)))
			may(t, plain, p, behind(double(param("x", op, p))))
			may(t, plain, p, behind(math(param("x", op, p))))
		}
		may(t, false, op, behind(double(param("x", op, bare("}")))))
		may(t, false, op, behind(param("x", op, bare("a"), bare("b"))))
	}
}

func TestCheckCommands_P12_3(t *testing.T) {
	text := api.Node{Kind: api.Simple, Redirs: []api.Redir{{Kind: api.Here, Word: api.Word{single("x\n")}}}}
	for _, in := range places() {
		may(t, true, "none", in(command()))
		may(t, true, "some", in(command(simple("a"), with(api.Back, one(api.Simple)), sample(api.Func))))
		may(t, false, "what may not be", in(command(api.Node{})))
		may(t, false, "what may not be", in(command(simple("a"), simple("if"))))
		may(t, true, "a word of its own", in(command(behind(double(command(behind(single("a"))))))))
		may(t, false, "a text", in(command(text)))
		may(t, false, "a text", in(command(with(api.Sub, []api.Node{text}))))
		may(t, false, "a text", in(command(behind(double(command(text))))))
		may(t, false, "a text", in(command(simple("a"), behind(param("x", api.Alter, command(text))))))
		may(t, false, "a text", in(command(behind(command()), text)))
		may(t, false, "a text", in(command(api.Node{Kind: api.Switch, Words: words("a"), Cases: []api.Case{{Words: words("a"), Body: []api.Node{text}}}})))
		may(t, false, "a text", in(command(api.Node{Kind: api.Func, Name: "f", Lists: [][]api.Node{{with(api.Group, []api.Node{text})}}})))
		group := sample(api.Group)
		group.Redirs = text.Redirs
		may(t, true, "a text", group)
		may(t, false, "a text", in(command(group)))
		// Behind a Command, and ahead of it, there may be one.
		n := in(command())
		n.Redirs = text.Redirs
		may(t, true, "beside", n)
		if e := trees.Check([]api.Node{text, in(command(simple("a"))), text}); e != api.OK {
			t.Error(e)
		}
	}
	may(t, false, "in a text", api.Node{Kind: api.Simple, Redirs: []api.Redir{{Kind: api.Here, Word: api.Word{double(command(text), bare("\n"))}}}})
	may(t, true, "in a text", api.Node{Kind: api.Simple, Redirs: []api.Redir{{Kind: api.Here, Word: api.Word{double(command(simple("a")), bare("\n"))}}}})
}

// wordsThatAre are words, with whether they are whole.
func wordsThatAre() []struct {
	w     api.Word
	whole bool
} {
	return []struct {
		w     api.Word
		whole bool
	}{
		{nil, false}, {api.Word{}, false}, {api.Word{bare("a")}, true}, {api.Word{bare("#")}, false}, {api.Word{bare("#a"), single("b")}, false}, {api.Word{bare("a#")}, true}, {api.Word{single("#")}, true}, {api.Word{single(""), bare("#")}, true}, {api.Word{double(bare("#"))}, true}, {api.Word{param("x", 0), bare("#")}, true},
		{api.Word{single("")}, true}, {api.Word{double()}, true}, {api.Word{bare("")}, false}, {api.Word{bare("a b")}, false}, {api.Word{bare("a"), bare("b")}, false}, {api.Word{math(), math()}, true}, {api.Word{command()}, true}, {api.Word{{}}, false}, {api.Word{double(double())}, false},
	}
}

func TestCheckWhole_P12_3(t *testing.T) {
	for _, x := range wordsThatAre() {
		set := len(x.w) == 0 || x.whole || strings.HasPrefix(x.w[0].Text, "#")
		may(t, x.whole, x.w, api.Node{Kind: api.Simple, Words: []api.Word{x.w}})
		may(t, x.whole, x.w, behind(x.w...))
		may(t, set, x.w, api.Node{Kind: api.Simple, Sets: []api.Set{{Name: "x", Word: x.w}}})
		may(t, x.whole, x.w, api.Node{Kind: api.Simple, Redirs: []api.Redir{{Kind: api.In, Word: x.w}}})
		may(t, x.whole, x.w, api.Node{Kind: api.For, Name: "x", Given: true, Words: []api.Word{x.w}, Lists: [][]api.Node{one(api.Simple)}})
		may(t, x.whole, x.w, api.Node{Kind: api.Switch, Words: []api.Word{x.w}})
		may(t, x.whole, x.w, api.Node{Kind: api.Switch, Words: words("a"), Cases: []api.Case{{Words: []api.Word{x.w}}}})
		may(t, x.whole, x.w, api.Node{Kind: api.Switch, Words: words("a"), Cases: []api.Case{{Words: words("a")}, {Words: []api.Word{{single("")}, x.w}}}})
	}
}

func TestCheckRedirs_P12_3(t *testing.T) {
	for _, fd := range []int{-1, 0, 1, 16, 99, 100, 1 << 40, -1 << 40} {
		for _, kind := range []int{0, api.In, api.Out, api.More, api.Both, api.Dup, api.Here, 7, -1} {
			ok := fd >= 0 && fd < 100 && kind > 0 && kind < 7
			may(t, ok && kind != api.Here, kind, api.Node{Kind: api.Simple, Redirs: []api.Redir{{Fd: fd, Kind: kind, Word: api.Word{bare("a")}}}})
			may(t, ok, kind, api.Node{Kind: api.Simple, Redirs: []api.Redir{{Fd: fd, Kind: kind, Word: api.Word{single("")}}}})
			may(t, ok, kind, api.Node{Kind: api.Simple, Redirs: []api.Redir{{Kind: api.In, Word: api.Word{bare("f")}}, {Fd: fd, Kind: kind, Word: api.Word{double()}}}})
		}
	}
	for i, x := range []struct {
		w    api.Word
		here bool
	}{
		{api.Word{single("")}, true}, {api.Word{single("\n")}, true}, {api.Word{single("a\nb\n")}, true}, {api.Word{single("a")}, false}, {api.Word{single("a\nb")}, false}, {api.Word{single("\n ")}, false}, {api.Word{single("$x`'\n")}, true},
		{api.Word{double()}, true}, {api.Word{double(bare("\n"))}, true}, {api.Word{double(bare("a\nb\n"))}, true}, {api.Word{double(bare("a"))}, false}, {api.Word{double(bare("a\nb"))}, false}, {api.Word{double(param("x", 0))}, false}, {api.Word{double(param("x", 0), bare("\n"))}, true}, {api.Word{double(bare("\n"), param("x", 0))}, false}, {api.Word{double(math(), bare("$`\\\"\n"))}, true}, {api.Word{double(command())}, false},
		{api.Word{bare("a")}, false}, {api.Word{param("x", 0)}, false}, {api.Word{command()}, false}, {api.Word{math()}, false}, {api.Word{single("\n"), double(bare("\n"))}, false}, {api.Word{single(""), bare("a")}, false}, {api.Word{double(), double()}, false},
	} {
		may(t, x.here, i, api.Node{Kind: api.Simple, Redirs: []api.Redir{{Kind: api.Here, Word: x.w}}})
		may(t, true, i, api.Node{Kind: api.Simple, Redirs: []api.Redir{{Kind: api.Dup, Word: x.w}}})
		group := sample(api.Group)
		group.Redirs = []api.Redir{{Fd: 3, Kind: api.Here, Word: x.w}}
		may(t, x.here, i, group)
	}
	for _, w := range []api.Word{{double(single("a"), bare("\n"))}, {double(bare("a"), bare("\n"))}, {{Kind: api.Single, Text: "\n", Colon: true}}, nil} {
		may(t, false, w, api.Node{Kind: api.Simple, Redirs: []api.Redir{{Kind: api.Here, Word: w}}})
	}
}

func TestCheckSimple_P12_3(t *testing.T) {
	set := []api.Set{{Name: "x"}}
	in := []api.Redir{{Kind: api.In, Word: api.Word{bare("f")}}}
	may(t, false, "nothing", api.Node{Kind: api.Simple})
	may(t, true, "set", api.Node{Kind: api.Simple, Sets: set})
	may(t, true, "redirection", api.Node{Kind: api.Simple, Redirs: in})
	may(t, true, "all", api.Node{Kind: api.Simple, Sets: set, Words: words("a"), Redirs: in})
	for _, s := range reserved {
		may(t, false, s, simple(s))
		may(t, false, s, simple(s, "a"))
		may(t, false, s, api.Node{Kind: api.Simple, Words: words(s), Redirs: in})
		may(t, true, s, api.Node{Kind: api.Simple, Sets: set, Words: words(s)})
		may(t, true, s, simple("a", s, s))
		may(t, true, s, api.Node{Kind: api.Simple, Words: []api.Word{{single(s)}}})
		may(t, true, s, api.Node{Kind: api.Simple, Words: []api.Word{{bare(s), single("")}}})
		may(t, true, s, simple(s+"x"))
		may(t, true, s, api.Node{Kind: api.For, Name: "x", Given: true, Words: words(s), Lists: [][]api.Node{one(api.Simple)}})
		may(t, true, s, api.Node{Kind: api.Switch, Words: words(s), Cases: []api.Case{{Words: words(s, s)}}})
	}
	for s, ok := range map[string]bool{"x=": false, "x=1": false, "x=a=b": false, "_9=": false, "=": true, "=x": true, "1=": true, "x-=": true, "-x=": true, "x": true, "x:=1": true, "é=": true, "a.b=c": true, "==": true, "1x=y=": true} {
		may(t, ok, s, simple(s))
		may(t, ok, s, api.Node{Kind: api.Simple, Sets: set, Words: words(s, "a")})
		may(t, ok, s, api.Node{Kind: api.Simple, Words: []api.Word{{bare(s), single("a")}}})
		may(t, true, s, simple("a", s))
		may(t, true, s, api.Node{Kind: api.Simple, Words: []api.Word{{single(s)}}})
		may(t, true, s, api.Node{Kind: api.Simple, Words: []api.Word{{single(""), bare(s)}}})
	}
	may(t, true, "a mark that is quoted", api.Node{Kind: api.Simple, Words: []api.Word{{bare("x"), single("=")}}})
	may(t, true, "a mark behind a piece", api.Node{Kind: api.Simple, Words: []api.Word{{bare("x"), param("y", 0), bare("=1")}}})
	for name, ok := range map[string]bool{"x": true, "_": true, "if": true, "": false, "1": false, "a-b": false, "x=": false, "@": false} {
		may(t, ok, name, api.Node{Kind: api.Simple, Sets: []api.Set{{Name: name}}})
		may(t, ok, name, api.Node{Kind: api.Simple, Sets: []api.Set{{Name: "a", Word: api.Word{bare("=x")}}, {Name: name}}, Words: words("b")})
	}
}

func TestCheckPipes_P12_3(t *testing.T) {
	for _, a := range kinds {
		stage := !slices.Contains([]int{api.Pipe, api.And, api.Or, api.Back}, a)
		n := with(api.Pipe, one(a))
		may(t, false, a, n)
		n.Bang = true
		may(t, stage, a, n)
		for _, bang := range []bool{false, true} {
			n := with(api.Pipe, one(api.Simple), one(a))
			n.Bang = bang
			may(t, stage, a, n)
			n = with(api.Pipe, one(a), one(api.Func), one(api.Simple))
			n.Bang = bang
			may(t, stage, a, n)
			n = with(api.Pipe, one(a), nil)
			n.Bang = bang
			may(t, false, a, n)
			n = with(api.Pipe, one(api.Simple), []api.Node{simple("a"), sample(a)})
			n.Bang = bang
			may(t, false, a, n)
		}
	}
	may(t, false, "none", with(api.Pipe))
	may(t, false, "none", api.Node{Kind: api.Pipe, Bang: true})
	may(t, false, "a part", with(api.Pipe, one(api.Simple), []api.Node{simple("if")}))
}

func TestCheckPairs_P12_3(t *testing.T) {
	for _, kind := range []int{api.And, api.Or} {
		for _, a := range kinds {
			for _, b := range kinds {
				ok := a != api.Back && !slices.Contains([]int{api.And, api.Or, api.Back}, b)
				may(t, ok, []int{a, b}, with(kind, one(a), one(b)))
				may(t, false, "three", with(kind, one(a), one(b), one(b)))
			}
			may(t, false, a, with(kind, one(a)))
			may(t, false, a, with(kind, one(a), nil))
			may(t, false, a, with(kind, nil, one(a)))
			may(t, false, a, with(kind, append(one(a), one(a)...), one(api.Simple)))
			may(t, false, a, with(kind, one(api.Simple), append(one(a), one(a)...)))
		}
		may(t, false, kind, with(kind))
		may(t, false, kind, with(kind, []api.Node{simple("fi")}, one(api.Simple)))
		may(t, false, kind, with(kind, one(api.Simple), []api.Node{{}}))
		may(t, false, kind, with(kind, []api.Node{{}}, one(api.Simple)))
	}
}

func TestCheckBack_P12_3(t *testing.T) {
	for _, a := range kinds {
		may(t, a != api.Back, a, with(api.Back, one(a)))
		may(t, false, a, with(api.Back, one(a), one(a)))
		may(t, false, a, with(api.Back, append(one(a), one(a)...)))
	}
	may(t, false, "none", with(api.Back))
	may(t, false, "none", with(api.Back, nil))
	may(t, false, "a part", with(api.Back, []api.Node{{}}))
}

// Each kind has so many lists at least, and at most.
func TestCheckCompounds_P12_3(t *testing.T) {
	for kind, x := range map[int]struct{ least, most int }{api.Group: {1, 1}, api.Sub: {1, 1}, api.If: {2, 9}, api.While: {2, 2}, api.Until: {2, 2}, api.For: {1, 1}} {
		for n := range 6 {
			node := api.Node{Kind: kind}
			if kind == api.For {
				node.Name = "x"
			}
			for i := range n {
				node.Lists = append(node.Lists, slices.Repeat(one(kinds[i+n]), i+1))
			}
			ok := n >= x.least && n <= x.most
			may(t, ok, kind, node)
			node.Redirs = []api.Redir{{Kind: api.Out, Word: api.Word{bare("f")}}, {Fd: 2, Kind: api.Dup, Word: api.Word{bare("1")}}}
			may(t, ok, kind, node)
			for i := range n {
				was := node.Lists[i]
				node.Lists[i] = nil
				may(t, false, kind, node)
				node.Lists[i] = append(slices.Clone(was), api.Node{})
				may(t, false, kind, node)
				node.Lists[i] = was
			}
			node.Redirs[1].Fd = 100
			may(t, false, kind, node)
		}
	}
}

func TestCheckFor_P12_3(t *testing.T) {
	for name, ok := range map[string]bool{"x": true, "_1": true, "if": true, "in": true, "": false, "1": false, "a b": false, "@": false, "x=": false} {
		n := sample(api.For)
		n.Name = name
		may(t, ok, name, n)
		n.Given = true
		may(t, ok, name, n)
		n.Words = words("a", "b=c")
		may(t, ok, name, n)
		n.Given = false
		may(t, false, name, n)
	}
}

func TestCheckSwitch_P12_3(t *testing.T) {
	a := words("a")
	for i, x := range []struct {
		words []api.Word
		cases []api.Case
		ok    bool
	}{
		{a, nil, true}, {nil, nil, false}, {words("a", "b"), nil, false}, {nil, []api.Case{{Words: a}}, false}, {words("a", "b"), []api.Case{{Words: a}}, false}, {words("x=1"), nil, true},
		{a, []api.Case{{Words: a}}, true}, {a, []api.Case{{Words: words("a", "b", "*")}, {Words: a, Body: one(api.Back)}}, true}, {a, []api.Case{{}}, false}, {a, []api.Case{{Words: a}, {Body: one(api.Simple)}}, false}, {a, []api.Case{{Words: a, Body: []api.Node{simple("a"), {}}}}, false}, {a, []api.Case{{Words: a, Body: []api.Node{}}, {Words: a}}, true},
	} {
		n := api.Node{Kind: api.Switch, Words: x.words, Cases: x.cases}
		may(t, x.ok, i, n)
		n.Redirs = []api.Redir{{Kind: api.In, Word: api.Word{bare("f")}}}
		may(t, x.ok, i, n)
	}
}

func TestCheckFunc_P12_3(t *testing.T) {
	for _, a := range kinds {
		compound := slices.Contains([]int{api.Group, api.Sub, api.If, api.While, api.Until, api.For, api.Switch}, a)
		for name, ok := range map[string]bool{"f": true, "_": true, "F1": true, "iff": true, "": false, "1f": false, "a-b": false, "f ": false} {
			may(t, ok && compound, name, api.Node{Kind: api.Func, Name: name, Lists: [][]api.Node{one(a)}})
		}
		may(t, false, a, api.Node{Kind: api.Func, Name: "f", Lists: [][]api.Node{one(a), one(a)}})
		may(t, false, a, api.Node{Kind: api.Func, Name: "f", Lists: [][]api.Node{append(one(a), one(a)...)}})
	}
	for _, s := range reserved {
		may(t, false, s, api.Node{Kind: api.Func, Name: s, Lists: [][]api.Node{one(api.Group)}})
	}
	may(t, false, "none", api.Node{Kind: api.Func, Name: "f"})
	may(t, false, "none", api.Node{Kind: api.Func, Name: "f", Lists: [][]api.Node{nil}})
	group := sample(api.Group)
	group.Redirs = []api.Redir{{Kind: api.In, Word: api.Word{bare("f")}}}
	may(t, true, "redirections of the command", api.Node{Kind: api.Func, Name: "f", Lists: [][]api.Node{{group}}})
}

// A command has no fields but those of its kind.
func TestCheckFields_P12_3(t *testing.T) {
	fields := []func(n *api.Node){
		func(n *api.Node) { n.Bang = true }, func(n *api.Node) { n.Name = "x" }, func(n *api.Node) { n.Given = true },
		func(n *api.Node) { n.Sets = []api.Set{{Name: "x"}} }, func(n *api.Node) { n.Words = words("a") }, func(n *api.Node) { n.Redirs = []api.Redir{{Kind: api.In, Word: api.Word{bare("f")}}} },
		func(n *api.Node) { n.Lists = append(n.Lists, one(api.Simple)) }, func(n *api.Node) { n.Cases = []api.Case{{Words: words("a")}} },
	}
	own := []string{"swr", "bl", "", "", "", "r", "r", "rl", "r", "r", "ngr", "wrc", "n"}
	for i, kind := range kinds {
		for j, change := range fields {
			n := sample(kind)
			change(&n)
			if kind == api.Pipe && j == 0 || kind == api.Func && j == 1 {
				may(t, true, kind, n)
				continue
			}
			may(t, strings.Contains(own[i], "bngswrlc"[j:j+1]), []int{kind, j}, n)
		}
		n := sample(kind)
		n.Sets, n.Redirs, n.Cases = []api.Set{}, []api.Redir{}, []api.Case{}
		may(t, true, kind, n)
	}
}
