package lexer_test

import (
	"math"
	"slices"
	"strings"
	"testing"

	"whelk/api"
	"whelk/lexer"
)

// told is things in a line: a letter for the kind, and the text, | between each two.
func told(l []lexer.Token) string {
	var out []string
	for _, t := range l {
		if t.Kind < 0 || t.Kind > lexer.Word {
			return "no kind"
		}
		out = append(out, "ELONW"[t.Kind:t.Kind+1]+t.Text)
	}
	return strings.Join(out, "|")
}

// long is a text of n bytes.
func long(n int) string { return strings.Repeat("a", n) }

func TestNext_P11_1(t *testing.T) {
	for _, x := range []struct {
		s    string
		at   int
		want lexer.Token
	}{
		{"", 0, lexer.Token{}},
		{"a", 1, lexer.Token{Kind: lexer.End, At: 1, Stop: 1}},
		{"a  ", 1, lexer.Token{Kind: lexer.End, At: 3, Stop: 3}},
		{" #a", 0, lexer.Token{Kind: lexer.End, At: 3, Stop: 3}},
		{"\\\n", 0, lexer.Token{Kind: lexer.End, At: 2, Stop: 2}},
		{"a", 0, lexer.Token{Kind: lexer.Word, Text: "a", At: 0, Stop: 1}},
		{" \ta b", 0, lexer.Token{Kind: lexer.Word, Text: "a", At: 2, Stop: 3}},
		{" \ta b", 3, lexer.Token{Kind: lexer.Word, Text: "b", At: 4, Stop: 5}},
		{"#a\n", 0, lexer.Token{Kind: lexer.Newline, Text: "\n", At: 2, Stop: 3}},
		{"a\n\n", 2, lexer.Token{Kind: lexer.Newline, Text: "\n", At: 2, Stop: 3}},
		{"a \\\n&&b", 1, lexer.Token{Kind: lexer.Op, Text: "&&", At: 4, Stop: 6}},
		{"x 12>f", 1, lexer.Token{Kind: lexer.Number, Text: "12", At: 2, Stop: 4}},
		{`a 'b c'`, 1, lexer.Token{Kind: lexer.Word, Text: `'b c'`, At: 2, Stop: 7}},
		// From a place on it is as if the text began there.
		{"abc", 1, lexer.Token{Kind: lexer.Word, Text: "bc", At: 1, Stop: 3}},
		{"a#b\nc", 1, lexer.Token{Kind: lexer.Newline, Text: "\n", At: 3, Stop: 4}},
		{"x2>f", 1, lexer.Token{Kind: lexer.Number, Text: "2", At: 1, Stop: 2}},
		{"&&&", 1, lexer.Token{Kind: lexer.Op, Text: "&&", At: 1, Stop: 3}},
		{"'a b'", 1, lexer.Token{Kind: lexer.Word, Text: "a", At: 1, Stop: 2}},
		{"\\\na", 1, lexer.Token{Kind: lexer.Newline, Text: "\n", At: 1, Stop: 2}},
		{"$(a)", 1, lexer.Token{Kind: lexer.Op, Text: "(", At: 1, Stop: 2}},
	} {
		if got, e := lexer.Next(x.s, x.at); got != x.want || e != api.OK {
			t.Errorf("Next(%q, %d) = %v, %v", x.s, x.at, got, e)
		}
	}
}

func TestNextErrors_P11_1(t *testing.T) {
	for _, x := range []struct {
		s    string
		at   int
		want api.Errno
	}{
		{long(4096), 0, api.OK}, {long(4096), 4096, api.OK}, {strings.Repeat("\n", 4096), 4095, api.OK},
		{long(4097), 0, api.ErrBig}, {long(4097), -1, api.ErrBig}, {long(4097), 4098, api.ErrBig}, {"'" + long(4096), 0, api.ErrBig},
		{"", -1, api.ErrArg}, {"", 1, api.ErrArg}, {"ab", 3, api.ErrArg}, {"ab", -1, api.ErrArg}, {"'", 2, api.ErrArg}, {long(4096), 4097, api.ErrArg},
		{"ab", math.MinInt, api.ErrArg}, {"ab", math.MaxInt, api.ErrArg},
	} {
		got, e := lexer.Next(x.s, x.at)
		if e != x.want || e != api.OK && got != (lexer.Token{}) {
			t.Errorf("%d bytes, %d: %v, %v", len(x.s), x.at, got, e)
		}
	}
}

// What does not end tells the place alone where the thing begins.
func TestNextMore_P11_1(t *testing.T) {
	for _, s := range []string{
		`\`, `a\`, `a\\\`, `'`, `'a`, `a'b`, `'\`, `''\`, `''a'`, `"`, `"a`, `"a\"`, `"a\\\"`, `a"b`, `"'`,
		"`", "`a", "a`b", "`\\`", "`a\\\\\\`", "`'`'", "`\\",
		"$(", "$(a", "$((a)", "$(()", "$(a\\)", "$(')'", `$(")"`, "$(`)`", "$(${)}", "$($(a)", "$(a\\", "$('", `$("`, "$(`",
		"${", "${a", "${a\\}", "${'}'", `${"}"`, "${`}`", "${$(}", "${${a}", "${a\\", "${'", `${"`, "${`",
		`"$(a"`, `"$(a)`, `"${a"`, `"${a}`, "\"`a\"", "\"`a`", `"$("`, `"$('"'"`, `"${a'}"`, `a$(b"c)d`, "a${b\n", "2$(", "2'",
		"'a\nb # c", "\"a\nb;&|()<>",
	} {
		for ahead, from := range map[string]int{"": 0, "ab": 2, "ab  ": 2, "#'\n": 3, "ab \t\\\n": 2, "(": 1} {
			place := len(ahead)
			got, e := lexer.Next(ahead+s, from)
			if got != (lexer.Token{At: place}) || e != api.ErrMore {
				t.Errorf("Next(%q, %d) = %v, %v", ahead+s, from, got, e)
			}
		}
	}
}

func TestBetween_P11_1(t *testing.T) {
	for s, want := range map[string]string{
		"": "", " ": "", "\t \t": "", "\\\n": "", " \\\n\\\n\t": "", "#": "", "# a 'b": "", "#a\\": "", "# \"$(`${": "",
		"a b": "Wa|Wb", "a\tb": "Wa|Wb", "a \\\n b": "Wa|Wb", "\\\na": "Wa", "\\\n#a\nb": "L\n|Wb", "a\\\n#b": "Wa\\\n#b",
		"#a\nb": "L\n|Wb", "#a\\\nb": "L\n|Wb", "#a#b\n#c\n": "L\n|L\n", "a #b\nc": "Wa|L\n|Wc", "a#b c": "Wa#b|Wc", "a# b": "Wa#|Wb",
		"a;#b\n": "Wa|O;|L\n", "(#a)\n)": "O(|L\n|O)", "''#a": "W''#a", "\\#a": "W\\#a", "2#>": "W2#|O>", "$#a": "W$#a", "a&# b": "Wa|O&",
		"\n\n a": "L\n|L\n|Wa", " \n": "L\n", "a\nb\n": "Wa|L\n|Wb|L\n",
		// Other bytes that stand for room are bytes of words.
		"a\rb\vc\fd": "Wa\rb\vc\fd", "\r\n": "W\r|L\n", "a\u00a0b": "Wa\u00a0b", "a\x00b": "Wa\x00b",
	} {
		got, at, e := lexer.All(s)
		if told(got) != want || at != 0 || e != api.OK {
			t.Errorf("%q: %q, %d, %v", s, told(got), at, e)
		}
	}
}

func TestOps_P11_1(t *testing.T) {
	for _, op := range []string{"&&", "||", ";;", "<<-", "<<", "<&", "<>", ">>", ">&", ">|", "&", "|", ";", "<", ">", "(", ")"} {
		for s, want := range map[string]string{op: "O" + op, "a" + op + "b": "Wa|O" + op + "|Wb", " " + op + " " + op: "O" + op + "|O" + op, op + "\n": "O" + op + "|L\n"} {
			got, at, e := lexer.All(s)
			if told(got) != want || at != 0 || e != api.OK {
				t.Errorf("%q: %q, %d, %v", s, told(got), at, e)
			}
		}
	}
	for s, want := range map[string]string{
		"&&&": "O&&|O&", "|||": "O|||O|", ";;;": "O;;|O;", "<<<": "O<<|O<", "<<<-": "O<<|O<|W-", "<<--": "O<<-|W-", ">>>": "O>>|O>", "<-": "O<|W-", ">-": "O>|W-", ">>-": "O>>|W-",
		"&|": "O&|O|", "|&": "O||O&", "><": "O>|O<", "<|": "O<|O|", ">;": "O>|O;", "&>": "O&|O>", "(())": "O(|O(|O)|O)", ">&-": "O>&|W-", "<&<": "O<&|O<", ">|>": "O>||O>", "<><": "O<>|O<", ";&": "O;|O&",
		"&\\\n&": "O&|O&", "<<\\\n-": "O<<|W-", "& &": "O&|O&", "<#": "O<", "!a": "W!a", "{a}": "W{a}", "a=b": "Wa=b", "-a": "W-a",
	} {
		if got, at, e := lexer.All(s); told(got) != want || at != 0 || e != api.OK {
			t.Errorf("%q: %q, %d, %v", s, told(got), at, e)
		}
	}
}

func TestNumbers_P11_1(t *testing.T) {
	for s, want := range map[string]string{
		"2>": "N2|O>", "2<": "N2|O<", "0<<E": "N0|O<<|WE", "10>>f": "N10|O>>|Wf", "007>&1": "N007|O>&|W1", "1<>f": "N1|O<>|Wf", "0123456789>|f": "N0123456789|O>||Wf", "1>&2>f": "N1|O>&|N2|O>|Wf",
		"2": "W2", "2 >f": "W2|O>|Wf", "2\t<f": "W2|O<|Wf", "x2>f": "Wx2|O>|Wf", "2x>f": "W2x|O>|Wf", "2&": "W2|O&", "2|": "W2|O|", "2;": "W2|O;", "2(": "W2|O(", "2)": "W2|O)", "2\n>": "W2|L\n|O>",
		"2\\\n>f": "W2\\\n|O>|Wf", "\\\n2>f": "N2|O>|Wf", "a\\\n2>f": "Wa\\\n2|O>|Wf", "\\2>f": "W\\2|O>|Wf", "'2'>f": "W'2'|O>|Wf", `"2">f`: `W"2"|O>|Wf`, "2''>f": "W2''|O>|Wf", "$2>f": "W$2|O>|Wf",
		"-1>f": "W-1|O>|Wf", "+1>f": "W+1|O>|Wf", "1.0>f": "W1.0|O>|Wf", "1:>f": "W1:|O>|Wf", "/1>f": "W/1|O>|Wf", "\u0662>f": "W\u0662|O>|Wf", "(2>f)": "O(|N2|O>|Wf|O)", "a 2>f": "Wa|N2|O>|Wf", "2\\>f": "W2\\>f",
	} {
		if got, at, e := lexer.All(s); told(got) != want || at != 0 || e != api.OK {
			t.Errorf("%q: %q, %d, %v", s, told(got), at, e)
		}
	}
}

// Each of these counts as a whole: it is one word, also with something ahead of it and behind it.
func TestWholes_P11_1(t *testing.T) {
	for _, s := range []string{
		`\ `, `\\`, `\'`, `\"`, `\$`, "\\`", `\;`, `\#`, `\(`, "\\\t", "\\\x00",
		`''`, `' '`, `'\'`, `'"'`, "'\n'", "'`'", `'$('`, `'a;b&c|d<e>f(g)#h'`, `'${'`,
		`""`, `" "`, `"'"`, `"\""`, `"\\"`, `"\a"`, "\"\n\"", "\"\\\n\"", `"a;b&c|d<e>f(g)#h"`, `"("`, `")"`, `"}"`, `"$"`, `"$a"`, `"{"`, `"$)"`,
		`"$(a)"`, `"$("")"`, `"$(")")"`, `"${a"}"}"`, `"${'}'}"`, "\"`\"`\"", `"a$(b "c d" e)f"`, `"$('"')"`,
		"``", "` `", "`'`", "`\"`", "`\\``", "`\\\\`", "`$(`", "`${`", "`\n`", "`a;b&c|d<e>f(g)#h`", "`\\a`", "`\\\n`",
		"$()", "$( )", "$(a b)", "$(\n)", "$(())", "$((1+2))", "$(a (b) c)", "$(()())", `$(")")`, "$(')')", "$(\\))", "$(\\()", "$('(')", `$("(")`, "$(`)`)", "$(`(`)", "$($(a))", "$(${)})", "$(})", "$({)", "$(a;b&c|d<e>f)", "$(#)", "$(\"'\")", "$('\"')", "$(a $(b (c) d) e)", "$((a $(b)) )", "$($)",
		"${}", "${a}", "${a b}", "${\n}", "${a\\}}", "${'}'}", `${"}"}`, "${`}`}", "${$(})}", "${${a}}", "${a{}", "${(}", "${)}", "${#a}", "${a;b&c|d<e>f}", "${a:-${b:-$(c})}}", "${$}", "${\"'\"}", "${'\"'}",
	} {
		for around, want := range map[string]string{"x": "W" + s, "axb": "Wa" + s + "b", "x#": "W" + s + "#", " x c": "W" + s + "|Wc", "x>c": "W" + s + "|O>|Wc", "x)": "W" + s + "|O)", "2x<": "W2" + s + "|O<", "a\\\nx\n": "Wa\\\n" + s + "|L\n", "xx": "W" + s + s, "$x": "W$" + s} {
			text := strings.ReplaceAll(around, "x", s)
			if got, at, e := lexer.All(text); told(got) != want || at != 0 || e != api.OK {
				t.Errorf("%q: %q, %d, %v", text, told(got), at, e)
			}
		}
	}
}

// What looks like a hole, or like what is quoted, and is none.
func TestNoWholes_P11_1(t *testing.T) {
	for s, want := range map[string]string{
		"$": "W$", "$ (a)": "W$|O(|Wa|O)", "\\$(a)": "W\\$|O(|Wa|O)", "$\\(a": "W$\\(a", "$\\\n(a)": "W$\\\n|O(|Wa|O)", "'$'(a)": "W'$'|O(|Wa|O)", "{ a b}": "W{|Wa|Wb}", "a(b)": "Wa|O(|Wb|O)", "$a(": "W$a|O(", "}": "W}",
		"$$(a b)": "W$$(a b)", "${a}}b c": "W${a}}b|Wc", "$(a))": "W$(a)|O)", "\\'a b": "W\\'a|Wb", "'a'b'c d'": "W'a'b'c d'", "${a{b}c} d": "W${a{b}c}|Wd", "$'a b'": "W$'a b'", `$"a b"`: `W$"a b"`, "<(a)": "O<|O(|Wa|O)",
	} {
		if got, at, e := lexer.All(s); told(got) != want || at != 0 || e != api.OK {
			t.Errorf("%q: %q, %d, %v", s, told(got), at, e)
		}
	}
}

func TestAll_P11_2(t *testing.T) {
	want := []lexer.Token{{Kind: lexer.Word, Text: "a", At: 1, Stop: 2}, {Kind: lexer.Op, Text: ">>", At: 3, Stop: 5}, {Kind: lexer.Newline, Text: "\n", At: 7, Stop: 8}, {Kind: lexer.Number, Text: "2", At: 8, Stop: 9}, {Kind: lexer.Op, Text: "<", At: 9, Stop: 10}, {Kind: lexer.Word, Text: "'b c'", At: 10, Stop: 15}}
	if got, at, e := lexer.All(" a >>#x\n2<'b c' "); !slices.Equal(got, want) || at != 0 || e != api.OK {
		t.Errorf("%v, %d, %v", got, at, e)
	}
	for s, want := range map[string]string{
		`a 'b c'>>d`: `Wa|W'b c'|O>>|Wd`, "2>f 2 >f x2>f": "N2|O>|Wf|W2|O>|Wf|Wx2|O>|Wf", "a #b\nc": "Wa|L\n|Wc", `$(a (b) ")")x&`: `W$(a (b) ")")x|O&`,
		"if a; then b; fi": "Wif|Wa|O;|Wthen|Wb|O;|Wfi", "for x in 1 2;do echo $x;done&": "Wfor|Wx|Win|W1|W2|O;|Wdo|Wecho|W$x|O;|Wdone|O&",
	} {
		if got, at, e := lexer.All(s); told(got) != want || at != 0 || e != api.OK {
			t.Errorf("%q: %q, %d, %v", s, told(got), at, e)
		}
	}
}

func TestAllErrors_P11_2(t *testing.T) {
	for _, x := range []struct {
		s, want string
		at      int
	}{
		{`a "b`, "Wa", 2}, {`a\`, "", 0}, {`a \`, "Wa", 2}, {" '", "", 1}, {"a\nb;$(", "Wa|L\n|Wb|O;", 4}, {"2>$(a", "N2|O>", 2}, {"a b'c", "Wa", 2}, {"#'\n'", "L\n", 3}, {"a \\\n \\", "Wa", 5},
	} {
		if got, at, e := lexer.All(x.s); told(got) != x.want || at != x.at || e != api.ErrMore {
			t.Errorf("%q: %q, %d, %v", x.s, told(got), at, e)
		}
	}
	if got, at, e := lexer.All(long(4096)); told(got) != "W"+long(4096) || at != 0 || e != api.OK {
		t.Error(len(got), at, e)
	}
	for _, s := range []string{long(4097), "a b" + long(4096), "a '" + long(4096), strings.Repeat("\n", 4097)} {
		if got, at, e := lexer.All(s); len(got) != 0 || at != 0 || e != api.ErrBig {
			t.Error(len(got), at, e)
		}
	}
}

func TestHole_P11_2(t *testing.T) {
	for _, x := range []struct {
		s        string
		at, want int
	}{
		{"$(a)", 0, 4}, {"${a}", 0, 4}, {"`a`", 0, 3}, {"$()", 0, 3}, {"${}", 0, 3}, {"``", 0, 2}, {"$(a)b", 0, 4}, {"${a}}", 0, 4}, {"$(a))", 0, 4}, {"`a``", 0, 3},
		{"x$(a)b", 1, 5}, {"$(a $(b) c)", 4, 8}, {"$((1))", 0, 6}, {"$(a (b) \")\")x", 0, 12}, {"${a:-'}'}x", 0, 9}, {"`\\``x", 0, 4}, {"$($(a)", 2, 6}, {"$$(a)", 1, 5},
		// From a place on it is as if the text began there.
		{`'$(a)'`, 1, 5}, {`\$(a)`, 1, 5}, {"#${a}", 1, 5}, {"\"`a`\"", 1, 4}, {"`a`b`", 2, 5},
	} {
		if got, e := lexer.Hole(x.s, x.at); got != x.want || e != api.OK {
			t.Errorf("Hole(%q, %d) = %d, %v", x.s, x.at, got, e)
		}
	}
}

func TestHoleErrors_P11_2(t *testing.T) {
	for _, x := range []struct {
		s    string
		at   int
		want api.Errno
	}{
		{long(4097), 0, api.ErrBig}, {"$(" + long(4094) + ")", 0, api.ErrBig}, {"$(" + long(4097), -1, api.ErrBig}, {long(4097), 5000, api.ErrBig},
		{"$(a)", -1, api.ErrArg}, {"$(a)", 5, api.ErrArg}, {"$(a)", math.MinInt, api.ErrArg}, {"$(a)", math.MaxInt, api.ErrArg},
		{"", 0, api.ErrArg}, {"$(a)", 4, api.ErrArg}, {"$(a)", 1, api.ErrArg}, {"$(a)", 2, api.ErrArg}, {"a", 0, api.ErrArg}, {"$", 0, api.ErrArg}, {"$a", 0, api.ErrArg}, {"$$(a)", 0, api.ErrArg}, {"$)", 0, api.ErrArg}, {"$[a]", 0, api.ErrArg}, {"$`a`", 0, api.ErrArg}, {" $(a)", 0, api.ErrArg}, {"'a'", 0, api.ErrArg}, {`"$(a)"`, 0, api.ErrArg}, {"(a)", 0, api.ErrArg}, {"$\\\n(a)", 0, api.ErrArg},
		{"$(", 0, api.ErrMore}, {"${", 0, api.ErrMore}, {"`", 0, api.ErrMore}, {"$((a)", 0, api.ErrMore}, {"$(a\\)", 0, api.ErrMore}, {"${'}", 0, api.ErrMore}, {"`a\\`", 0, api.ErrMore}, {"$(a`)", 0, api.ErrMore}, {"a$(b", 1, api.ErrMore}, {"``", 1, api.ErrMore}, {"`\\", 0, api.ErrMore},
	} {
		if got, e := lexer.Hole(x.s, x.at); got != 0 || e != x.want {
			t.Errorf("Hole(%.20q, %d) = %d, %v", x.s, x.at, got, e)
		}
	}
	if got, e := lexer.Hole("$("+long(4093)+")", 0); got != 4096 || e != api.OK {
		t.Error(got, e)
	}
}

func TestReserved_P11_3(t *testing.T) {
	words := []string{"if", "then", "else", "elif", "fi", "do", "done", "while", "until", "for", "case", "esac", "in", "{", "}", "!"}
	for _, s := range words {
		if !lexer.Reserved(s) {
			t.Errorf("%q is not reserved", s)
		}
		for _, other := range []string{s + "x", "x" + s, s + " ", " " + s, strings.ToUpper(s), s[:len(s)-1], `\` + s, "'" + s + "'"} {
			if lexer.Reserved(other) != slices.Contains(words, other) {
				t.Errorf("%q: %v", other, lexer.Reserved(other))
			}
		}
	}
	for _, s := range []string{"", " ", "(", ")", "&&", ";", "[", "function", "select", "time", "echo", "\n", long(5000)} {
		if lexer.Reserved(s) {
			t.Errorf("%q is reserved", s)
		}
	}
}

// R2: what All answered is the caller's, and R3: what it answers does not hang on earlier calls.
func TestAnswersAreNew_R2(t *testing.T) {
	const s = "a 2>b; 'c"
	first, _, _ := lexer.All(s)
	want := told(first)
	second, _, _ := lexer.All(s)
	for i := range first {
		first[i] = lexer.Token{}
	}
	third, at, e := lexer.All(s)
	if told(second) != want || told(third) != want || at != 7 || e != api.ErrMore {
		t.Error(told(second), told(third), at, e)
	}
}

// Texts with very much in one another come to their end.
func TestDeep_Limits(t *testing.T) {
	for _, x := range [][2]string{{"$(", ")"}, {"${", "}"}, {`"$(`, `)"`}, {`"${`, `}"`}, {"$((", "))"}, {"${$(", ")}"}, {"$(${\"", "\"})"}} {
		n := api.MaxText / len(x[0]+x[1])
		s := strings.Repeat(x[0], n) + strings.Repeat(x[1], n)
		if got, at, e := lexer.All(s); told(got) != "W"+s || at != 0 || e != api.OK {
			t.Errorf("%q: %d things, %d, %v", x, len(got), at, e)
		}
		open := strings.Repeat(x[0], api.MaxText/len(x[0]))
		if got, at, e := lexer.All(open); len(got) != 0 || at != 0 || e != api.ErrMore {
			t.Errorf("%q: %d things, %d, %v", x, len(got), at, e)
		}
	}
	s := "$(" + strings.Repeat("(", 2046) + strings.Repeat(")", 2047)
	if got, e := lexer.Hole(s, 0); got != len(s) || e != api.OK {
		t.Error(got, e)
	}
	for _, c := range []string{"a\n", "&", "(", "a ", "2>", "''"} {
		n := api.MaxText / len(c)
		if _, at, e := lexer.All(strings.Repeat(c, n)); at != 0 || e != api.OK {
			t.Error(c, at, e)
		}
	}
}
