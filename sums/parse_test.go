package sums_test

import (
	"regexp"
	"slices"
	"strconv"
	"strings"
	"testing"

	"whelk/api"
	"whelk/sums"
)

func TestParse_P3_2(t *testing.T) {
	a, b, c, x, y := name("a"), name("b"), name("c"), name("x"), name("y")
	for s, want := range map[string]sums.Expr{
		"": num(0), " \t\n\v\f\r": num(0), "0": num(0), "017": num(15), "0xff": num(255), "0XFf": num(255), "9223372036854775807": num(1<<63 - 1),
		"x": x, " x ": x, "_": name("_"), "aZ_09": name("aZ_09"), "x08": name("x08"), "(x)": x, "((( x )))": x,
		"-x": op("neg", x), "+x": op("pos", x), "! x": op("not", x), "~x": op("com", x), "-+!~x": op("neg", op("pos", op("not", op("com", x)))),
		"a+b*c": op("+", a, op("*", b, c)), "a*b+c": op("+", op("*", a, b), c), "(a+b)*c": op("*", op("+", a, b), c),
		"a-b-c": op("-", op("-", a, b), c), "a-(b-c)": op("-", a, op("-", b, c)), "a/b*c": op("*", op("/", a, b), c), "a--b": op("-", a, op("neg", b)), "-a*b": op("*", op("neg", a), b), "!a==b": op("==", op("not", a), b),
		"a<<b+c": op("<<", a, op("+", b, c)), "a<b<<c": op("<", a, op("<<", b, c)), "a==b<c": op("==", a, op("<", b, c)), "a&b==c": op("&", a, op("==", b, c)),
		"a^b&c": op("^", a, op("&", b, c)), "a|b^c": op("|", a, op("^", b, c)), "a&&b|c": op("&&", a, op("|", b, c)), "a||b&&c": op("||", a, op("&&", b, c)), "a||b||c": op("||", op("||", a, b), c),
		"a?b:c": op("?", a, b, c), "a||b?b:c": op("?", op("||", a, b), b, c), "a?b:c||x": op("?", a, b, op("||", c, x)), "a?b:c?x:y": op("?", a, b, op("?", c, x, y)), "a?b?x:y:c": op("?", a, op("?", b, x, y), c), "(a?b:c)?x:y": op("?", op("?", a, b, c), x, y),
		"a=b": set("a", "=", b), "a=b=c": set("a", "=", set("b", "=", c)), "a=b?x:y": set("a", "=", op("?", b, x, y)), "a?b=c:x": op("?", a, set("b", "=", c), x), "a=b||c": set("a", "=", op("||", b, c)), "(a=b)+c": op("+", set("a", "=", b), c), "a+(b=c)": op("+", a, set("b", "=", c)),
		"a?b:(c=x)": op("?", a, b, set("c", "=", x)), "a=b?c+=x:y": set("a", "=", op("?", b, set("c", "+=", x), y)), "a=-b": set("a", "=", op("neg", b)), "a==-b": op("==", a, op("neg", b)),
		// The longest mark is taken.
		"a<<=b": set("a", "<<=", b), "a>>=b": set("a", ">>=", b), "a<=b": op("<=", a, b), "a>=b": op(">=", a, b), "a<-b": op("<", a, op("neg", b)), "a&&!b": op("&&", a, op("not", b)), "a=!b": set("a", "=", op("not", b)), "a=~b": set("a", "=", op("com", b)), "a-=-b": set("a", "-=", op("neg", b)), "a!=!b": op("!=", a, op("not", b)),
		"1?x:y": op("?", num(1), x, y), "1 ? x\n: y": op("?", num(1), x, y),
	} {
		if got, at, e := sums.Parse(s); !same(got, want) || at != 0 || e != api.OK {
			t.Errorf("Parse(%q) = %s, %d, %v", s, told(got), at, e)
		}
	}
	for _, m := range twos {
		for _, s := range []string{"a" + m + "b", " a " + m + "\tb\n"} {
			if got, at, e := sums.Parse(s); !same(got, op(m, a, b)) || at != 0 || e != api.OK {
				t.Errorf("Parse(%q) = %s, %d, %v", s, told(got), at, e)
			}
		}
	}
	for _, m := range sets {
		if got, at, e := sums.Parse("a" + m + "b"); !same(got, set("a", m, b)) || at != 0 || e != api.OK {
			t.Errorf("%s: %s, %d, %v", m, told(got), at, e)
		}
	}
}

// wrongs are texts, where they are wrong, and by what.
type wrongs []struct {
	s    string
	at   int
	want api.Errno
}

func (l wrongs) check(t *testing.T) {
	t.Helper()
	for _, x := range l {
		if got, at, e := sums.Parse(x.s); !same(got, sums.Expr{}) || at != x.at || e != x.want {
			t.Errorf("Parse(%.60q) = %s, %d, %v", x.s, told(got), at, e)
		}
	}
}

func TestParseSyntax_P3_2(t *testing.T) {
	for at, l := range [][]string{
		0: {")", "*", "*1", "?", ":", "=1", "=", "-=1", "+=1", "!=1", "$x", "'1'", "\\1", "\x00", "\x85", "\xc3\xa9", "#1", "\x08", "\x7f", "{", "|", "<1", "&&", "@08"},
		1: {"(", "()", " )", "1)", "-", "!", "1!", "1~", "1~1", "1:2", "1:", "1(2)", "x(1)", "1,2", "a[1]", "1.5", "1\x00", "x\xa0", "1;", "1\x0e", "1`", "+", "(*", "x~=1", "-*1"},
		2: {"(1", "( )", "1 2", "1 x", "x y", "x 1", "1+", "1**2", "1?", "1?:2", "x=", "x=*2", "x=)", "1 @", "x !", "+ =1", "+ ", "1 ("},
		3: {"(1 ", "(1))", "1<<<2", "1>>>2", "1&&&2", "1===2", "1?2", "1?2)", "(x)y", "x++", "x--", "x&&=1", "x||=1", "x===1", "x<==1", "1? :2", "x==*2", "x==", "x? ?1:2"},
		4: {"1+ \n", "1?2:", "(1?2)", "1?(2:3)", "(x=1", "x=y z", "x = = 2", "x=1 y=2", "1?2 3:4", "1?2:)"},
		5: {"1?2:3:4", "x <<== 2", "((1)\n"},
		6: {"(1?2:3", "1?2?3:", "x=(y=1"},
		7: {"1?2?3:4", "(1?2:3?"},
	} {
		for _, s := range l {
			wrongs{{s, at, api.ErrSyntax}}.check(t)
		}
	}
}

func TestParseNumber_P3_2(t *testing.T) {
	wrongs{
		{"08", 0, api.ErrNumber}, {" 09", 1, api.ErrNumber}, {"0x", 0, api.ErrNumber}, {"0xg", 0, api.ErrNumber}, {"0X", 0, api.ErrNumber}, {"0x1g", 0, api.ErrNumber}, {"0x_", 0, api.ErrNumber}, {"1a", 0, api.ErrNumber}, {"1_", 0, api.ErrNumber}, {"1x1", 0, api.ErrNumber}, {"018", 0, api.ErrNumber}, {"0b1", 0, api.ErrNumber}, {"00x1", 0, api.ErrNumber},
		{"9223372036854775808", 0, api.ErrNumber}, {"-9223372036854775808", 1, api.ErrNumber}, {"0x8000000000000000", 0, api.ErrNumber}, {"01000000000000000000000", 0, api.ErrNumber}, {"1+18446744073709551617", 2, api.ErrNumber}, {strings.Repeat("9", 4096), 0, api.ErrNumber}, {"99999999999999999999a", 0, api.ErrNumber},
		// At one place ahead of ErrSyntax; else what comes first.
		{"1 08", 2, api.ErrNumber}, {"x 1a", 2, api.ErrNumber}, {"(1)9223372036854775808", 3, api.ErrNumber}, {"1 2 08", 2, api.ErrSyntax}, {")08", 0, api.ErrSyntax}, {"1)08", 1, api.ErrSyntax}, {"1 ! 08", 2, api.ErrSyntax}, {"08 )", 0, api.ErrNumber}, {"1=08", 1, api.ErrPlace}, {"x=08=1", 2, api.ErrNumber}, {"*08", 0, api.ErrSyntax}, {"1:08", 1, api.ErrSyntax},
		{strings.Repeat("(", 41) + "08", 40, api.ErrDeep}, {strings.Repeat("(", 40) + "08", 40, api.ErrNumber},
	}.check(t)
	for _, s := range []string{"07", "0", "00", "0x0", "1 ", "x1a", "_1"} {
		if _, at, e := sums.Parse(s); at != 0 || e != api.OK {
			t.Errorf("Parse(%q): %d, %v", s, at, e)
		}
	}
}

func TestParsePlace_P3_2(t *testing.T) {
	l := wrongs{
		{"0||x=1", 4, api.ErrPlace}, {"1=2", 1, api.ErrPlace}, {"(x)=1", 3, api.ErrPlace}, {"((x))=1", 5, api.ErrPlace}, {"-x=1", 2, api.ErrPlace}, {"!x+=1", 2, api.ErrPlace}, {"a+x=1", 3, api.ErrPlace}, {"x+1=2", 3, api.ErrPlace}, {"x=1=2", 3, api.ErrPlace}, {"x=y+z=2", 5, api.ErrPlace}, {"x=(y)=2", 5, api.ErrPlace},
		{"a?b:c=1", 5, api.ErrPlace}, {"a?1=2:3", 3, api.ErrPlace}, {"x=a?b:c=1", 7, api.ErrPlace}, {"a?b:c?d:e=1", 9, api.ErrPlace}, {"a?b:-c=1", 6, api.ErrPlace}, {"(a=1)=2", 5, api.ErrPlace}, {"(1+x=2)", 4, api.ErrPlace}, {"1=", 1, api.ErrPlace}, {"1=)", 1, api.ErrPlace}, {"1 == x = 2", 7, api.ErrPlace}, {"a?x+y=1:2", 5, api.ErrPlace},
	}
	for _, m := range sets {
		l = append(l, wrongs{{"1 " + m + " 2", 2, api.ErrPlace}, {"(x)" + m + "2", 3, api.ErrPlace}, {"1-x " + m, 4, api.ErrPlace}}...)
	}
	l.check(t)
}

func TestParseDeep_P3_2(t *testing.T) {
	many := strings.Repeat
	for _, x := range []struct {
		open, end string
		at        int // of the mark in open
	}{
		{"(", ")", 0}, {"-", "", 0}, {"! ", "", 0}, {"x=", "", 1}, {"x <<= ", "", 2}, {"1?2:", "", 1}, {"1?", ":2", 1}, {"1+(", ")", 2}, {"-(", ")", 0},
	} {
		most := 40
		if x.open == "-(" { // two of them
			most = 20
		}
		if _, at, e := sums.Parse(many(x.open, most) + "1" + many(x.end, most)); at != 0 || e != api.OK {
			t.Errorf("%d of %q: %d, %v", most, x.open, at, e)
		}
		for _, n := range []int{most + 1, most + 2, 300} {
			at := most*len(x.open) + x.at
			wrongs{{many(x.open, n) + "1" + many(x.end, n), at, api.ErrDeep}, {many(x.open, n), at, api.ErrDeep}}.check(t)
		}
	}
	// They count together, in whatever order; those that have ended do not count.
	forty := many("(", 10) + many("-", 10) + many("(x=", 5) + many("(1?2:", 5)
	wrongs{{forty + "-1", 60, api.ErrDeep}, {forty + "(1", 60, api.ErrDeep}, {forty + "x=1", 61, api.ErrPlace}, {forty + "1?2:3", 61, api.ErrDeep}, {forty + ")", 60, api.ErrSyntax}, {forty + "08", 60, api.ErrNumber}}.check(t)
	for _, s := range []string{
		forty + "1" + many(")", 20), many(many("(", 40)+"1"+many(")", 40)+"+", 40) + "1", many("-1*", 500) + "1", many("(-1)+", 500) + "1", many("(1?2:3)+", 400) + "1", many("(x=1)+", 500) + "1",
		many("-", 40) + "1" + many("+"+many("-", 40)+"1", 20), many("1?(2):", 39) + "(3)", many("1*2+3<<", 400) + "1",
		// What stands ahead of a ? has ended there.
		many("(", 40) + "1" + many(")", 40) + "?2:3", many("-", 40) + "1?2:3",
	} {
		if _, at, e := sums.Parse(s); at != 0 || e != api.OK {
			t.Errorf("Parse(%.60q): %d, %v", s, at, e)
		}
	}
}

func TestParseBig_P3_2(t *testing.T) {
	many := strings.Repeat
	for _, s := range []string{many("1+", 2047) + "11", many(" ", 4095) + "1", many("x", 4096), many(" ", 4096), many("1+", 2047) + " 1"} {
		if _, at, e := sums.Parse(s); len(s) != 4096 || at != 0 || e != api.OK {
			t.Errorf("%.20q, %d bytes: %d, %v", s, len(s), at, e)
		}
	}
	wrongs{{many("x", 4097), 0, api.ErrBig}, {many(" ", 4097), 0, api.ErrBig}, {"08)" + many("(", 5000), 0, api.ErrBig}, {many(" ", 4095) + "(", 4096, api.ErrSyntax}, {many("1+", 2048), 4096, api.ErrSyntax}}.check(t)
}

// word is a thing of a text, as the tests read it.
type word struct {
	text string
	at   int
}

var things = regexp.MustCompile(`[A-Za-z_][A-Za-z_0-9]*|[0-9][A-Za-z_0-9]*|<<=|>>=|<<|>>|<=|>=|==|!=|&&|\|\||[-*/%+&^|]=|(?s:.)`)

func wordsOf(s string) []word {
	var out []word
	for _, m := range things.FindAllStringIndex(s, -1) {
		if w := s[m[0]:m[1]]; strings.Trim(w, " \t\n") != "" {
			out = append(out, word{w, m[0]})
		}
	}
	return out
}

func isName(w string) bool   { return w[0] == '_' || 'a' <= w[0] && w[0] <= 'z' }
func isNumber(w string) bool { return '0' <= w[0] && w[0] <= '9' }

// wrongOf goes over the words with a stack of what stands open, and finds what is wrong first.
func wrongOf(s string, l []word) (int, api.Errno) {
	var open []string
	push := func(mark string) bool { open = append(open, mark); return len(open) <= api.MaxDepth }
	pop := func(marks ...string) {
		for len(open) > 0 && slices.Contains(marks, open[len(open)-1]) {
			open = open[:len(open)-1]
		}
	}
	operand := true
	for i, w := range l {
		if isNumber(w.text) {
			if _, e := strconv.ParseInt(w.text, 0, 64); e != nil {
				return w.at, api.ErrNumber
			}
		}
		leaf := isName(w.text) || isNumber(w.text)
		deep := false
		switch {
		case operand && leaf:
			operand = false
			pop("ahead")
		case operand && w.text == "(":
			deep = !push("(")
		case operand && strings.Contains("-+!~", w.text):
			deep = !push("ahead")
		case operand || leaf || strings.Contains("(!~", w.text):
			return w.at, api.ErrSyntax
		case w.text == ")":
			pop("set", ":")
			if len(open) == 0 || open[len(open)-1] != "(" {
				return w.at, api.ErrSyntax
			}
			open = open[:len(open)-1]
			pop("ahead")
		case w.text == "?":
			operand = true
			deep = !push("?")
		case w.text == ":":
			pop("set", ":")
			if len(open) == 0 || open[len(open)-1] != "?" {
				return w.at, api.ErrSyntax
			}
			open[len(open)-1] = ":"
			operand = true
		case slices.Contains(sets, w.text):
			alone := isName(l[i-1].text) && (i == 1 || strings.Contains("(?", l[i-2].text) || slices.Contains(sets, l[i-2].text))
			if !alone {
				return w.at, api.ErrPlace
			}
			operand = true
			deep = !push("set")
		case slices.Contains(twos, w.text):
			operand = true
		default:
			return w.at, api.ErrSyntax
		}
		if deep {
			return w.at, api.ErrDeep
		}
	}
	pop("set", ":")
	if operand && len(l) > 0 || len(open) > 0 {
		return len(s), api.ErrSyntax
	}
	return 0, api.OK
}

// treeOf cuts words of which nothing is wrong at what goes last.
func treeOf(l []word) sums.Expr {
	if len(l) == 0 {
		return num(0)
	}
	if len(l) == 1 && isName(l[0].text) {
		return name(l[0].text)
	}
	if len(l) == 1 {
		n, _ := strconv.ParseInt(l[0].text, 0, 64)
		return num(n)
	}
	if slices.Contains(sets, l[1].text) && isName(l[0].text) {
		return set(l[0].text, l[1].text, treeOf(l[2:]))
	}
	outer := outside(l)
	for _, i := range outer {
		if l[i].text == "?" {
			n := 1
			j := i
			for n > 0 {
				j++
				if slices.Contains(outer, j) && l[j].text == "?" {
					n++
				}
				if slices.Contains(outer, j) && l[j].text == ":" {
					n--
				}
			}
			return op("?", treeOf(l[:i]), treeOf(l[i+1:j]), treeOf(l[j+1:]))
		}
	}
	for _, row := range []string{"||", "&&", "|", "^", "&", "== !=", "< <= > >=", "<< >>", "+ -", "* / %"} {
		for _, i := range slices.Backward(outer) {
			if i > 0 && slices.Contains(strings.Fields(row), l[i].text) && endsOperand(l[i-1].text) {
				return op(l[i].text, treeOf(l[:i]), treeOf(l[i+1:]))
			}
		}
	}
	if l[0].text == "(" {
		return treeOf(l[1 : len(l)-1])
	}
	return op(map[string]string{"-": "neg", "+": "pos", "!": "not", "~": "com"}[l[0].text], treeOf(l[1:]))
}

func endsOperand(w string) bool { return isName(w) || isNumber(w) || w == ")" }

// outside is the places of the words that no brackets are around.
func outside(l []word) []int {
	var out []int
	n := 0
	for i, w := range l {
		if w.text == ")" {
			n--
		}
		if n == 0 {
			out = append(out, i)
		}
		if w.text == "(" {
			n++
		}
	}
	return out
}

// against holds Parse against the second reading.
func against(t *testing.T, s string) {
	l := wordsOf(s)
	got, at, e := sums.Parse(s)
	wantAt, want := wrongOf(s, l)
	if at != wantAt || e != want {
		t.Fatalf("Parse(%q): %v at %d, not %v at %d", s, e, at, want, wantAt)
	}
	tree := sums.Expr{}
	if want == api.OK {
		tree = treeOf(l)
	}
	if !same(got, tree) {
		t.Fatalf("Parse(%q) = %s, not %s", s, told(got), told(tree))
	}
}

func everyRow(words []string, most int, f func(s string)) {
	var grow func(s string, n int)
	grow = func(s string, n int) {
		f(s)
		if n < most {
			for _, w := range words {
				grow(s+w, n+1)
			}
		}
	}
	grow("", 0)
}

func TestParseAll_P3_2(t *testing.T) {
	check := func(s string) { against(t, s) }
	everyRow([]string{"x", "1", "-", "*", "<", "?", ":", "=", "&", "(", ")", "!", " "}, 4, check)
	everyRow([]string{"x", "2", "?", ":", "=", "(", ")", "||"}, 6, check)
	everyRow([]string{"x", "-", "=", "<", ">", "&", "!"}, 5, check)
	everyRow([]string{"x ", "08", "+", "|", "^", ">", "~", "%=", "/", "@", "0x"}, 4, check)
}

// Rows that go on as they may, nearly always, so that long ones are expressions, and deep.
func TestParseLong_P3_2(t *testing.T) {
	seed := uint32(1)
	pick := func(n int) int {
		seed = seed*1664525 + 1013904223
		return int(seed>>8) % n
	}
	starts := []string{"x", "1", "0x1f", " y", "(", "-", "!", "((", "x=", "z+=", "(x=", "(y?x=", "~"}
	behind := []string{"+", "*", "-", "<<", "||", "&&", "==", "&", "|", "^", "?", "?x:", ":", "?(", ")", ")", "))", "<", "/", "%"}
	good := 0
	for range 20000 {
		s, open, ends := "", 0, false
		for range pick(60) {
			next := starts[pick(len(starts))]
			if ends {
				next = behind[pick(len(behind))]
			}
			// What is not open is closed seldom, so that most rows go on.
			if strings.Count(next, ")") > open && pick(20) > 0 {
				continue
			}
			open += strings.Count(next, "(") - strings.Count(next, ")")
			ends = endsOperand(next[len(next)-1:])
			s += next
		}
		if !ends {
			s += "1"
		}
		s += strings.Repeat(")", max(open, 0))
		against(t, s)
		if _, _, e := sums.Parse(s); e == api.OK {
			good++
		}
	}
	if good < 2000 {
		t.Errorf("only %d rows are expressions", good)
	}
}
