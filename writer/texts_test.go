package writer_test

import (
	"strings"
	"testing"

	"whelk/api"
	"whelk/writer"
)

func TestTextsInPlace_P14_1(t *testing.T) {
	writes(t, "cat 0<<'E'\nE\n", cat(single("")))
	writes(t, "cat 0<<E\nE\n", cat(double()))
	writes(t, "cat 0<<'E'\n$x `\\ \"'\n\t\n'\\''\nE\n", cat(single("$x `\\ \"'\n\t\n'\\''\n")))
	writes(t, "cat 0<<E\n\\$x \\`\\\\ \"'\n\t\nE\n", cat(double(bare("$x `\\ \"'\n\t\n"))))
	writes(t, "cat 0<<E\n\\\\\n\\$\nE\n", cat(double(bare("\\\n$\n"))))
	writes(t, "0<<E\n\nE\n", api.Node{Kind: api.Simple, Redirs: []api.Redir{here(0, double(bare("\n")))}})
	writes(t, "cat 0<<E\n${x}${x-'$' \"\\$\\\"\"}$((1))$( a 'b'\n)\nE\na\n", cat(double(param("x", api.Value), param("x", api.Default, single("$"), bare(" "), double(bare("$\""))), math(bare("1")), command(api.Node{Kind: api.Simple, Words: []api.Word{{bare("a")}, {single("b")}}}), bare("\n"))), simple("a"))
	writes(t, "x=1 a 2>f 7<<'E' 0<<E 99<<'E' 1>g\nb\nE\nc\nE\nE\n", api.Node{Kind: api.Simple, Sets: []api.Set{{Name: "x", Word: api.Word{bare("1")}}}, Words: words("a"), Redirs: []api.Redir{redir(2, api.Out, bare("f")), here(7, single("b\n")), here(0, double(bare("c\n"))), here(99, single("")), redir(1, api.Out, bare("g"))}})
}

// The mark is the shortest one that no line of the text's bytes is.
func TestMarks_P14_1(t *testing.T) {
	for s, mark := range map[string]string{
		"": "E", "\n": "E", "E\n": "EE", "a\nE\nb\n": "EE", "EE\n": "E", "E\nEE\n": "EEE", "EE\nE\n": "EEE", "E\nEEE\n": "EE", "EEE\nEE\nE\nE\n": "EEEE", "E\nE\n": "EE",
		"E \n": "E", " E\n": "E", "\tE\n": "E", "aE\nEa\n": "E", "e\n": "E", "'E'\n": "E", "E\r\n": "E", "\n\nE\n": "EE", "E\n\n": "EE", "E\x00\n": "E",
	} {
		writes(t, "cat 0<<'"+mark+"'\n"+s+mark+"\n", cat(single(s)))
		l := []api.Piece{bare(s)}
		if s == "" {
			l = nil
		}
		writes(t, "cat 0<<"+mark+"\n"+s+mark+"\n", cat(double(l...)))
	}
	// The lines are those of the bytes that are written.
	feed := bare("\n")
	writes(t, "cat 0<<EE\n${x-\nE\n}\nEE\n", cat(double(param("x", api.Default, bare("\nE\n")), feed)))
	writes(t, "cat 0<<EE\n${x-'\nE\n'}\nEE\n", cat(double(param("x", api.Default, single("\nE\n")), feed)))
	writes(t, "cat 0<<EE\n${x-\"\nE\n\"}\nEE\n", cat(double(param("x", api.Default, double(bare("\nE\n"))), feed)))
	writes(t, "cat 0<<EE\n$((\nE\n))\nEE\n", cat(double(math(bare("\nE\n")), feed)))
	writes(t, "cat 0<<EE\n$( a\nE\n)\nEE\n", cat(double(command(simple("a"), simple("E")), feed)))
	writes(t, "cat 0<<E\n$( E\n)\nE\n", cat(double(command(simple("E")), feed)))
	writes(t, "cat 0<<E\nE${x}\nE\n", cat(double(bare("E"), param("x", api.Value), feed)))
	writes(t, "cat 0<<E\n\\\\E\nE\n", cat(double(bare("\\E\n"))))
	writes(t, "cat 0<<'EE'\nE'\nE\nEE\n", cat(single("E'\nE\n")))
	writes(t, "cat 0<<'EEE' 0<<'E' 0<<EE\nE\nEE\nEEE\nEE\nE\nE\nEE\n", cat(single("E\nEE\n"), single("EE\n"), double(bare("E\n"))))
	var lines strings.Builder
	for n := 1; n <= 60; n++ {
		lines.WriteString(strings.Repeat("E", n) + "\n")
	}
	mark := strings.Repeat("E", 61)
	writes(t, "cat 0<<'"+mark+"'\n"+lines.String()+mark+"\n", cat(single(lines.String())))
}

// A text stands behind the next line feed of a line, whatever that ends.
func TestTextsStandBehindTheNextLineFeed_P14_1(t *testing.T) {
	x, y := cat(single("x\n")), cat(double(bare("y\n")))
	const xs, ys = "x\nE\n", "y\nE\n"
	a := simple("a")
	writes(t, "cat 0<<'E'\n"+xs+"cat 0<<E\n"+ys, x, y)
	writes(t, "cat 0<<'E' | cat 0<<E && a &\n"+xs+ys+"a\n", pair(api.Back, pair(api.And, pair(api.Pipe, x, y), a)), a)
	writes(t, "cat 0<<'E' || {\n"+xs+"cat 0<<E\n"+ys+"}\n", pair(api.Or, x, of(api.Group, list(y))))
	writes(t, "cat 0<<'E' | (\n"+xs+"a\n) | cat 0<<E\n"+ys, pair(api.Pipe, x, of(api.Sub, list(a)), y))
	writes(t, "cat 0<<'E' | if\n"+xs+"cat 0<<E\n"+ys+"then\na\nfi\n", pair(api.Pipe, x, of(api.If, list(y), list(a))))
	writes(t, "cat 0<<'E' | while\n"+xs+"a\ndo\ncat 0<<E\n"+ys+"done\n", pair(api.Pipe, x, of(api.While, list(a), list(y))))
	writes(t, "cat 0<<'E' | for i in b\n"+xs+"do\ncat 0<<E\n"+ys+"done\n", pair(api.Pipe, x, each("i", true, words("b"), y)))
	writes(t, "cat 0<<'E' | for i\n"+xs+"do\na\ndone\n", pair(api.Pipe, x, each("i", false, nil, a)))
	writes(t, "cat 0<<'E' | case b in\n"+xs+"(c)\ncat 0<<E\n"+ys+";;\n(d)\n;;\nesac\n", pair(api.Pipe, x, choice(api.Word{bare("b")}, inCase(words("c"), y), inCase(words("d")))))
	writes(t, "cat 0<<'E' | f()\n"+xs+"{\ncat 0<<E\n"+ys+"}\n", pair(api.Pipe, x, function("f", of(api.Group, list(y)))))
	writes(t, "if\ncat 0<<'E'\n"+xs+"then\ncat 0<<E\n"+ys+"elif\ncat 0<<'E'\n"+xs+"then\na\nelse\ncat 0<<E\n"+ys+"fi\n", of(api.If, list(x), list(y), list(x), list(a), list(y)))
	// Those of a compound command stand behind it, also ahead of what follows in its line.
	for want, n := range map[string]api.Node{"{\ncat 0<<'E'\nx\nE\n}": of(api.Group, list(x)), "(\na\n)": of(api.Sub, list(a)), "case a in\nesac": choice(api.Word{bare("a")}), "until\na\ndo\na\ndone": of(api.Until, list(a), list(a))} {
		n = to(n, here(3, double(bare("z\n"))), here(4, single("w\n")))
		writes(t, want+" 3<<E 4<<'E' && cat 0<<'E'\nz\nE\nw\nE\n"+xs+"a\n", pair(api.And, n, x), a)
		writes(t, "f()\n"+want+" 3<<E 4<<'E'\nz\nE\nw\nE\n", function("f", n))
	}
}

// A line feed that stands in a piece is none behind which a text stands.
func TestLineFeedsInPieces_P14_1(t *testing.T) {
	x := here(0, single("x\n"))
	for want, p := range map[string]api.Piece{
		"'\n'": single("\n"), "\"\n\"": double(bare("\n")), "${y-\n}": param("y", api.Default, bare("\n")), "$((\n))": math(bare("\n")),
		"$( a\nb\n)": command(simple("a"), simple("b")), "$( {\na\n}\n)": command(of(api.Group, list(simple("a")))), "$( f()\n(\na\n) 1>f\n)": command(function("f", to(of(api.Sub, list(simple("a"))), redir(1, api.Out, bare("f"))))),
		"$( case a in\n(b)\n;;\nesac\n)": command(choice(api.Word{bare("a")}, inCase(words("b")))), "\"${y-$( a\n)}\"": double(param("y", api.Default, command(simple("a")))), "$( a $( b\n)\n)": command(api.Node{Kind: api.Simple, Words: []api.Word{{bare("a")}, {command(simple("b"))}}}),
	} {
		writes(t, "a 0<<'E' 1>"+want+"\nx\nE\n", to(simple("a"), x, redir(1, api.Out, p)))
		writes(t, "a 0<<'E' | y="+want+" "+want+"z 0<<E\nx\nE\nw\nE\n", pair(api.Pipe, to(simple("a"), x), to(api.Node{Kind: api.Simple, Sets: []api.Set{{Name: "y", Word: api.Word{p}}}, Words: []api.Word{{p, bare("z")}}}, here(0, double(bare("w\n"))))))
		writes(t, "a 0<<'E' && for i in "+want+" b\nx\nE\ndo\na\ndone\n", pair(api.And, to(simple("a"), x), each("i", true, []api.Word{{p}, {bare("b")}}, simple("a"))))
		writes(t, "a 0<<'E' && case "+want+" in\nx\nE\n("+want+"|b)\n;;\nesac\n", pair(api.And, to(simple("a"), x), choice(api.Word{p}, inCase([]api.Word{{p}, {bare("b")}}))))
		if p.Kind == api.Single || p.Kind == api.Double {
			continue
		}
		writes(t, "a 0<<'E' 0<<E\nx\nE\n"+want+"\nE\n", to(simple("a"), x, here(0, double(p, bare("\n")))))
	}
	refuses(t, api.ErrArg, "a text in place that does not end its line", cat(single("x")))
	refuses(t, api.ErrArg, "a text in place that does not end its line", cat(double(bare("\n"), param("x", api.Value))))
	refuses(t, api.ErrArg, "a text in place in a Command", say(command(to(of(api.Group, list(simple("a"))), x))))
}

// Lines of a text in place are not looked at for the mark of another one.
func TestTextsOfMarks_P14_2(t *testing.T) {
	var texts []string
	lines := []string{"", "E\n", "EE\n", "x\n", "\n"}
	for _, a := range lines {
		for _, b := range lines {
			for _, c := range lines {
				texts = append(texts, a+b+c)
			}
		}
	}
	for _, a := range texts {
		for _, b := range texts {
			second := double(bare(b))
			if b == "" {
				second = double()
			}
			l := list(cat(single(a), second), simple("E"))
			s, e := writer.Script(l)
			if e != api.OK {
				t.Fatal(a, b, e)
			}
			readAgain(t, s, l)
		}
	}
}
