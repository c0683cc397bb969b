package writer_test

import (
	"strings"
	"testing"

	"whelk/api"
	"whelk/trees"
	"whelk/writer"
)

func TestBareAndSingle_P14_1(t *testing.T) {
	for _, s := range []string{"a", "12", "if", "{", "}", "!", "a#b", "x=1", "~/", "*?[c]", "-", "%", "a\x00\xff\r"} {
		spells(t, s, bare(s))
		spells(t, s+"'b'"+s, bare(s), single("b"), bare(s))
	}
	for s, want := range map[string]string{"": "''", "a": "'a'", " ": "' '", "a b": "'a b'", "'": `''\'''`, "a'b": `'a'\''b'`, "''": `''\'''\'''`, "\\": `'\'`, "\\'": `'\'\'''`, "$x`\"\n\t;&|<>()#": "'$x`\"\n\t;&|<>()#'", "\xff\x00": "'\xff\x00'"} {
		spells(t, want, single(s))
		spells(t, "a"+want+"b", bare("a"), single(s), bare("b"))
	}
}

func TestDouble_P14_1(t *testing.T) {
	spells(t, `""`, double())
	spells(t, `""""`, double(), double())
	for s, want := range map[string]string{"a": "a", " a\tb\n": " a\tb\n", "$": `\$`, "$x": `\$x`, "`": "\\`", `\`: `\\`, `\\`: `\\\\`, `"`: `\"`, "\\\n": "\\\\\n", `\"`: `\\\"`, "$(a)": `\$(a)`, "${": `\${`, "'": "'", "}": "}", "#;&|<>()!": "#;&|<>()!", "\xff$\xfe": "\xff\\$\xfe"} {
		spells(t, `"`+want+`"`, double(bare(s)))
		spells(t, `a"`+want+`"'b'"c"`, bare("a"), double(bare(s)), single("b"), double(bare("c")))
		spells(t, `"`+want+`${x}`+want+`"`, double(bare(s), param("x", api.Value), bare(s)))
	}
	// What is in quotes stands in them just up to what has a place of its own.
	spells(t, `"${x-'$' a"\$"}\$$((1))$( '$'`+"\n"+`)"`, double(param("x", api.Default, single("$"), bare(" a"), double(bare("$"))), bare("$"), math(bare("1")), command(say(single("$")))))
}

func TestParam_P14_1(t *testing.T) {
	marks := map[int]string{api.Default: "-", api.Assign: "=", api.Alter: "+", api.Need: "?", api.Head: "#", api.Heads: "##", api.Tail: "%", api.Tails: "%%"}
	names := []string{"x", "_y1", "if", "0", "1", "12"}
	for _, name := range append([]string{"@", "*", "#", "?", "-", "$", "!"}, names...) {
		spells(t, "${"+name+"}", param(name, api.Value))
		spells(t, "a${"+name+"}b", bare("a"), param(name, api.Value), bare("b"))
		spells(t, "\"${"+name+"}b\"", double(param(name, api.Value), bare("b")))
		spells(t, "$((${"+name+"}1))", math(param(name, api.Value), bare("1")))
	}
	for _, name := range names {
		spells(t, "${#"+name+"}", param(name, api.Length))
		for op, mark := range marks {
			spells(t, "${"+name+mark+"}", param(name, op))
			spells(t, "${"+name+mark+"a}", param(name, op, bare("a")))
			spells(t, "\"${"+name+mark+" ;\n(&|<>){\t=:-+?}\"", double(param(name, op, bare(" ;\n(&|<>){\t=:-+?"))))
			spells(t, "${"+name+mark+"'}'\"\\$}'\"${"+name+"}b}", param(name, op, single("}"), double(bare("$}'")), param(name, api.Value), bare("b")))
			spells(t, "${"+name+mark+"$( a\n)$((1))}", param(name, op, command(simple("a")), math(bare("1"))))
			if op < api.Head {
				spells(t, "${"+name+":"+mark+"}", colon(param(name, op)))
				spells(t, "${"+name+":"+mark+"#a}", colon(param(name, op, bare("#a"))))
			}
		}
	}
	// The other op's mark may begin the word.
	spells(t, "${x#%a}", param("x", api.Head, bare("%a")))
	spells(t, "${x%#a}", param("x", api.Tail, bare("#a")))
	spells(t, "${x###}", param("x", api.Heads, bare("#")))
	spells(t, "${x%%%}", param("x", api.Tails, bare("%")))
	spells(t, "${x#''#}", param("x", api.Head, single(""), bare("#")))
	refusesWord(t, api.ErrArg, "#", param("x", api.Head, bare("#")))
	refusesWord(t, api.ErrArg, "%", param("x", api.Tail, bare("%a")))
	refusesWord(t, api.ErrArg, "}", param("x", api.Default, bare("}")))
	refusesWord(t, api.ErrArg, "01", param("01", api.Value))
	refusesWord(t, api.ErrArg, "@", param("@", api.Length))
	refusesWord(t, api.ErrArg, "colon", colon(param("x", api.Tail)))
	refusesWord(t, api.ErrArg, "op", param("x", 10))
}

func TestCommand_P14_1(t *testing.T) {
	spells(t, "$( )", command())
	spells(t, "$( a\n)", command(simple("a")))
	spells(t, "\"x$( a b\nc &\n)y\"", double(bare("x"), command(simple("a", "b"), pair(api.Back, simple("c"))), bare("y")))
	spells(t, "$( (\na\n)\n)", command(of(api.Sub, list(simple("a")))))
	spells(t, "$( case a in\n(b|c)\na\n;;\nesac\n)", command(choice(api.Word{bare("a")}, inCase(words("b", "c"), simple("a")))))
	spells(t, "$( a ')' $( \"\\\"$( )\"\n) 1>'('\n)", command(to(api.Node{Kind: api.Simple, Words: []api.Word{{bare("a")}, {single(")")}, {command(say(double(bare("\""), command())))}}}, redir(1, api.Out, single("(")))))
	refusesWord(t, api.ErrArg, "a text in place", command(cat(single(""))))
	refusesWord(t, api.ErrArg, "what may not be", command(simple("a"), simple("if")))
}

func TestMath_P14_1(t *testing.T) {
	spells(t, "$(())", math())
	spells(t, "$((1+ (2)*x\n))", math(bare("1+ (2)*x\n")))
	spells(t, "$(((1)))", math(bare("(1)")))
	spells(t, "$((((${x}))))", math(bare("(("), param("x", api.Value), bare("))")))
	spells(t, "\"$(($( a\n)$((2)) b))\"", double(math(command(simple("a")), math(bare("2")), bare(" b"))))
	spells(t, "$((${x-)}1))", math(param("x", api.Default, bare(")")), bare("1")))
	spells(t, "$((${x-'('\"(\"}))", math(param("x", api.Default, single("("), double(bare("(")))))
	refusesWord(t, api.ErrArg, "a bracket", math(bare("(")))
	refusesWord(t, api.ErrArg, "a quote", math(single("1")))
}

// escapes are what Bare bytes are in quotes, and in a text in place.
func escapes(s string, inQuotes bool) string {
	special := []string{"\\", "\\\\", "$", "\\$", "`", "\\`"}
	if inQuotes {
		special = append(special, "\"", "\\\"")
	}
	return strings.NewReplacer(special...).Replace(s)
}

// All short texts of the bytes that mean something, in each place.
func TestShortTexts_P14_2(t *testing.T) {
	const bytes = "$`\\\"'{}(#\na=%"
	var all []string
	for _, a := range bytes {
		all = append(all, string(a))
		for _, b := range bytes {
			all = append(all, string(a)+string(b))
			for _, c := range bytes {
				all = append(all, string(a)+string(b)+string(c))
			}
		}
	}
	for _, s := range all {
		quoted := "'" + strings.Join(strings.Split(s, "'"), `'\''`) + "'"
		spells(t, quoted, single(s))
		spells(t, "${x-"+quoted+"}", param("x", api.Default, single(s)))
		spells(t, `"`+escapes(s, true)+`"`, double(bare(s)))
		writes(t, "cat 0<<E\n"+escapes(s, false)+"\nE\n", cat(double(bare(s+"\n"))))
		writes(t, "cat 0<<'E'\n"+s+"\nE\n", cat(single(s+"\n")))
		ifMay(t, s, bare(s))
		ifMay(t, "${x-"+s+"}", param("x", api.Default, bare(s)))
		ifMay(t, "${x%"+s+"}", param("x", api.Tail, bare(s)))
		ifMay(t, "$(("+s+"))", math(bare(s)))
	}
}

// ifMay asks that a word that may be is written so, and no other one.
func ifMay(t *testing.T, want string, w ...api.Piece) {
	t.Helper()
	if e := trees.Check(list(api.Node{Kind: api.Simple, Words: []api.Word{{bare("a")}, w}})); e != api.OK {
		refusesWord(t, e, want, w...)
		return
	}
	spells(t, want, w...)
}

// A word is what stands behind the a of a Simple of a and it.
func TestWordIsOfASimple_P14_1(t *testing.T) {
	menu := []api.Piece{bare("b"), bare("#"), bare("if"), bare("="), single(""), single("' '"), double(), double(bare("\"")), param("x", api.Value), param("y", api.Head, bare("a")), param("z", api.Length, bare("a")), command(), command(simple("c")), command(cat(single(""))), math(), math(bare("(1)")), {}, {Kind: 7}}
	for _, a := range menu {
		for _, b := range menu {
			for _, w := range []api.Word{nil, {a}, {a, b}, {a, b, a}, {double(a, b)}, {param("x", api.Alter, a, b)}, {math(a, b)}} {
				text, e := writer.Word(w)
				want, wantE := writer.Script(list(api.Node{Kind: api.Simple, Words: []api.Word{{bare("a")}, w}}))
				if wantE == api.OK {
					want = strings.TrimSuffix(strings.TrimPrefix(want, "a "), "\n")
				}
				if text != want || e != wantE {
					t.Fatalf("%v: %q, %v, not %q, %v", w, text, e, want, wantE)
				}
			}
		}
	}
}
