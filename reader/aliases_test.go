package reader_test

import (
	"slices"
	"strconv"
	"strings"
	"testing"

	"whelk/api"
	"whelk/reader"
)

func TestAliases_P13_1(t *testing.T) {
	known := aliases(map[string]string{
		"a": "b", "b": "c d", "ll": "ls -l", "ls": "ls -F", "p": "q", "q": "r p", "set": "x=1 a", "to": ">f a", "no": "", "blank": " ", "two": "v; a | a", "open": "( a",
		"if": "w", "!": "w", "then": "w", "deep": "v $(deep a; a) `deep`", "quote": "'a' \"b\"", "sign": "v $a", "x-y": "z", "1": "one", "%": "percent",
	})
	reads(t, known, [][2]string{
		{"ll x", "[ls -F -l x]"}, {"ls", "[ls -F]"}, {"a a", "[c d a]"}, {"p p", "[r p p]"}, {"z a", "[z a]"}, {"a;a|a&&a&", "[c d]; back(and(pipe([c d])([c d]))([c d]))"}, {"(a) ; b", "sub([c d]); [c d]"}, {"{ a\n}", "group([c d])"}, {"! a", "!pipe([c d])"},
		{"x=1 a", "[x=1 c d]"}, {">f a", "[c d 1>f]"}, {"2>f x=1 >g a a", "[x=1 c d a 2>f 1>g]"}, {"set a", "[x=1 c d a]"}, {"to a", "[c d a 1>f]"}, {"x=a", "[x=a]"}, {">a", "[1>a]"}, {"a 2>a", "[c d 2>a]"}, {"1", "[one]"}, {"1>f", "[1>f]"}, {"% a", "[percent a]"}, {"x-y", "[z]"},
		{"no a", "[c d]"}, {"blank a", "[c d]"}, {"no no no z", "[z]"}, {"x=1 no", "[x=1]"}, {"no >f", "[1>f]"}, {"two a", "[v]; pipe([c d])([c d a])"}, {"open )", "sub([c d])"}, {"open;a)", "sub([c d]; [c d])"},
		{`\a`, "['a']"}, {"'a'", "['a']"}, {`"a"`, `["a"]`}, {`a''`, `[a.'']`}, {"a\\\n", "[a.'']"}, {"$a", "[${a}]"}, {"a$b", "[a.${b}]"}, {"quote", `['a' "b"]`}, {"sign", "[v ${a}]"},
		{"if a; then a; fi", "if([c d])([c d])"}, {"x=1 if", "[x=1 w]"}, {"x=1 !", "[x=1 w]"}, {"while a; do a; done", "while([c d])([c d])"}, {"for a in a; do a; done", "for a in a([c d])"}, {"case a in a|a) a;; (a) a; esac", "switch a{a|a: [c d]}{a: [c d]}"}, {"a() { a; }", "func a(group([c d]))"}, {"a ( ) (a)", "func a(sub([c d]))"},
		{"z $(a) \"$(a)\" `a` ${z-$(a)}", "[z $([c d]) \"$([c d])\" $([c d]) ${z-$([c d])}]"}, {"x=$(a)", "[x=$([c d])]"}, {"deep", "[v $([deep a]; [c d]) $([deep])]"}, {"z <<E\n$(a)\nE\n", "[z 0<<\"$([c d]).\n\"]"}, {"a <<a\nb\na\n", "[c d 0<<\"b\n\"]"},
	})
	wrongAt(t, known, "! a; ! ^;", "^then", "a; ^then", "! ^! a", "x=1; z ^)")
	failsWith(t, known, []fault{{"no", 2, api.ErrMore}, {"z && no", 7, api.ErrMore}, {"open", 4, api.ErrMore}, {"open a", 6, api.ErrMore}, {"no ;", 3, api.ErrSyntax}, {"no\nz", 2, api.ErrSyntax}, {"(no)", 3, api.ErrSyntax}})
	// A Word has none.
	words(t, [][2]string{{"$(a)", "$([a])"}})
}

// The things of an alias's text stand in the word's place whatever they are.
func TestAliasThings_P13_1(t *testing.T) {
	known := aliases(map[string]string{
		"when": "if", "so": "then", "end": "fi", "b": "{", "e": "}", "not": "! ", "f": "g ( )", "half": "g (", "nothing": "", "over": "esac", "next": ";; (", "sep": "a ;", "and": "a &&", "c": "case a in b ) ",
	})
	reads(t, known, [][2]string{
		{"when a; so z; end", "if([a])([z])"}, {"b a; e", "group([a])"}, {"b\na\ne >f", "group 1>f([a])"}, {"not a", "!pipe([a])"}, {"not b a; e | z", "!pipe(group([a]))([z])"}, {"f { a; }", "func g(group([a]))"}, {"f\n(a)", "func g(sub([a]))"}, {"half ) (a)", "func g(sub([a]))"}, {"sep z", "[a]; [z]"}, {"and a", "and([a])([a])"}, {"and\n\na", "and([a])([a])"},
		{"a; nothing", "[a]"}, {"a; nothing\n", "[a]"}, {"{ a; nothing\n nothing z\n nothing }", "group([a]; [z])"}, {"a && nothing\nnothing z", "and([a])([z])"}, {"a | nothing\n z", "pipe([a])([z])"}, {"(a; nothing)", "sub([a])"}, {"(nothing\na)", "sub([a])"},
		{"c over", "switch a{b: }"}, {"c\nd\nover", "switch a{b: [d]}"}, {"c d; next z) y; esac", "switch a{b: [d]}{z: [y]}"}, {"c nothing\nnext z) over", "switch a{b: }{z: }"},
	})
	wrongAt(t, known, "^so a", "when a; ^end", "b a; (a) ^e", "(a) ^end", "! ^not a", ">f ^when", "f ^a", "f ^>x", "a; nothing ^;", "a | nothing\n^;", "nothing ^;", "nothing^\na", "z (^e)")
}

func TestBlankBehind_P13_1(t *testing.T) {
	known := aliases(map[string]string{
		"l": "ls ", "t": "ls\t", "n": "ls", "x": "y", "y": "z", "o": "x ", "out": "n ", "no": "", "blank": " ", "op": "ls ; ", "e": `ls\ `, "c": "ls # ", "to": "ls > ", "set": "v=1 ", "q": "ls 'a' ", "self": "ls self ", "each": "for i in ", "w": "w x ", "if": "iffy", "feed": "ls\v",
	})
	reads(t, known, [][2]string{
		{"l x", "[ls z]"}, {"t x", "[ls z]"}, {"n x", "[ls x]"}, {"feed x", "[ls\v x]"}, {"l x x", "[ls z x]"}, {"l o x x", "[ls z z x]"}, {"l l l x", "[ls ls ls z]"}, {"l n x", "[ls ls x]"}, {"out x", "[ls z]"}, {"l out x x", "[ls ls z x]"}, {"q x", "[ls 'a' z]"}, {"c x", "[ls z]"}, {"e x", "[ls.' ' z]"}, {"set l x", "[v=1 ls z]"},
		{"l no x", "[ls x]"}, {"l blank x", "[ls z]"}, {"l blank blank x", "[ls z]"}, {"no x", "[z]"}, {"blank x x", "[z x]"},
		{"self self", "[ls self ls self]"}, {"self x x", "[ls self z x]"}, {"l self x", "[ls ls self z]"}, {"w x x", "[w x z x]"}, {"l w x", "[ls w x z]"},
		{"l 'x'", "[ls 'x']"}, {`l \x`, "[ls 'x']"}, {"l $x", "[ls ${x}]"}, {"l >x x", "[ls x 1>x]"}, {"l 2>x", "[ls 2>x]"}, {"l; n x", "[ls]; [ls x]"}, {"l\n", "[ls]"}, {"l | n x", "pipe([ls])([ls x])"}, {"op n x", "[ls]; [ls x]"}, {"to x", "[ls 1>x]"}, {"each x; do n; done", "for i in x([ls])"}, {"l x=1", "[ls x=1]"}, {"l if", "[ls iffy]"}, {"l then", "[ls then]"}, {"(l x)", "sub([ls z])"}, {"n $(l x) x", "[ls $([ls z]) x]"},
	})
}

func TestAliasFaults_P13_2(t *testing.T) {
	great := strings.Repeat("z", 4097)
	known := aliases(map[string]string{
		"open": "b \"c", "hole": "b $(c", "slash": `b \`, "great": great, "greatest": great[1:], "feed": "b\nc", "feeds": "\n", "here": "b <<E", "tabs": "b <<-E", "quoted": "b '<<' \"<<-\" 'c\nd' #<<E", "joined": "b\\\n \\\nc",
		"inner": "b $(c <<E)", "brace": "b ${} c", "sum": "b $((#))", "deep": "b $(c ; ;)", "wrong": "b ) c", "two": "wrong x", "lead": "b open", "behind": "b ", "more": "( b", "num": "b 123>c", "nested": "b; " + strings.Repeat("( ", 39) + "c" + strings.Repeat(" )", 39),
	})
	reads(t, known, [][2]string{{"quoted", "[b '<<' \"<<-\" 'c\nd']"}, {"joined", "[b.'' c]"}, {"greatest", "[" + great[1:] + "]"}, {"lead", "[b open]"}})
	wrongAt(t, known,
		"^open", "x; ^open", "^hole", "^slash", "^great", "^feed", "^feeds", "^here\nE\n", "^tabs\nE\n", "x=1 ^open", ">f ^open", "^inner", "x | ^brace", "^sum", "(x; ^deep)", "^wrong )", "x;^two", "x $(y; ^open)", "x \"$(^wrong)\"", "x ^`open`", "x ^`y; wrong`", "behind ^open", "behind behind ^feed", "behind ^wrong", "^num", "x $(more^)", "^open \"", "x <<E\n^$(open)\nE\n", "^wrong \"", "^brace ;;",
	)
	failsWith(t, known, []fault{{"more", 4, api.ErrMore}, {"behind \"", 8, api.ErrMore}, {"\n nested", 2, api.ErrDeep}, {"x; nested", 0, api.ErrDeep}, {"x $(nested)", 4, api.ErrDeep}, {"x `\n nested`", 2, api.ErrDeep}})
}

// A line has a hundred aliases at most, those of its Commands and texts in place too.
func TestManyAliases_P13_2(t *testing.T) {
	// Of a1 it is a2, and so on; of a200 it does not end; of b it is x.
	next := func(name string) (string, bool) {
		n, e := strconv.Atoi(strings.TrimPrefix(name, "a"))
		switch {
		case e != nil || !strings.HasPrefix(name, "a"):
			return "x", name == "b"
		case n == 200:
			return "\"", true
		}
		return "a" + strconv.Itoa(n+1), n > 0
	}
	b := func(n int) string { return strings.Repeat("b;", n) }
	for _, c := range []fault{
		{b(100), 0, api.OK}, {b(101), 200, api.ErrDeep}, {b(100) + "c", 0, api.OK}, {"c;" + b(101), 202, api.ErrDeep}, {b(100) + "c $(b)", 204, api.ErrDeep}, {b(99) + "c $(b)", 0, api.OK}, {b(99) + "c `b;b`", 200, api.ErrDeep}, {"c $(" + b(50) + ") $(b\n" + b(50) + ")", 208, api.ErrDeep}, {"c $(" + b(50) + ") $(b\n" + b(49) + ")", 0, api.OK},
		{b(99) + "\n" + b(99) + "\n", 0, api.OK}, {b(100) + "\n" + b(100) + "\n\n" + b(101), 603, api.ErrDeep}, {"{\n" + b(50) + "\n" + b(50) + "\n b; }", 205, api.ErrDeep}, {b(100) + "<<E\n$(b)\nE\n", 204, api.ErrDeep}, {b(99) + "<<E\n$(b)\nE\n", 0, api.OK},
		{"c; a1", 3, api.ErrDeep}, {"c; a99", 3, api.ErrDeep}, {"c; a101 b", 3, api.ErrSyntax}, {b(100) + " b \"", 201, api.ErrDeep},
		// Where an alias's text is wrong, too, that is named first.
		{b(100) + "a200", 200, api.ErrSyntax}, {b(100) + "a199", 200, api.ErrDeep}, {"a101", 0, api.ErrSyntax}, {"a100", 0, api.ErrSyntax},
	} {
		_, place, e := reader.Program(c.s, next)
		if place != c.place || e != c.e {
			t.Errorf("%.30q: %d, %v, not %d, %v", c.s, place, e, c.place, c.e)
		}
	}
}

// An alias is asked once of each word that may be one.
func TestAskedOnce_R3(t *testing.T) {
	var asked []string
	alias := func(name string) (string, bool) {
		asked = append(asked, name)
		return "l2 ", name == "l"
	}
	l, _, _, e := reader.Line("! a b | { c 'd'; x=1 e <f; l g h\n\n'i'; j() { if k; then $l; fi; }\n}", 0, alias)
	if want := "a c e l l2 g k $l"; strings.Join(asked, " ") != want || e != api.OK {
		t.Error(asked, told(l), e)
	}
}

// Commands are in one another as the promises' bound has it; beyond it reading ends all the same.
func TestNested_R1(t *testing.T) {
	opening := func(name string) (string, bool) {
		return strings.Repeat("(", 4000) + name + "a", strings.HasSuffix(name, "a") && len(name) < 17
	}
	failsWith(t, opening, []fault{{"b; a", 4, api.ErrMore}, {"b; aa;;", 5, api.ErrSyntax}})
	endless := func(name string) (string, bool) {
		return strings.Repeat("(", 4000) + name + "a", strings.HasSuffix(name, "a")
	}
	failsWith(t, endless, []fault{{"b; a", 3, api.ErrDeep}})
	many := func(name string) (string, bool) { return strings.Repeat("(z);", 1000), name == "a" }
	if l, _, _, e := reader.Line(strings.Repeat("a ", 70), 0, many); len(l) != 70000 || e != api.OK {
		t.Error(len(l), e)
	}
}

// Whatever an alias knows, reading ends.
func TestGreatAliases_R1(t *testing.T) {
	for _, c := range [][2]string{{"(", ")"}, {"{ ", "; }"}, {"if ", ""}, {"$(", ")"}, {"c $(", "\n)"}, {"! c | (", ")"}, {"c ${x-\"$(", ")\"}"}, {"`", "`"}, {"c;", ""}, {"", " c"}} {
		asked := 0
		alias := func(name string) (string, bool) {
			if strings.Trim(name, "abc") != "" {
				return "", false
			}
			asked++
			n := 2000 / len(c[0]+c[1])
			switch {
			case c[0] == "`":
				n = 1
			case strings.Contains(c[0], "$("):
				n /= 4
			}
			return strings.Repeat(c[0], n) + name + "b" + strings.Repeat(c[1], n), strings.HasPrefix(name, "a")
		}
		_, _, place, e := reader.Line("c; a", 0, alias)
		if !slices.Contains([]int{0, 3, 4}, place) || !slices.Contains([]api.Errno{api.ErrDeep, api.ErrMore}, e) || asked > 1000000 {
			t.Error(c, place, e, asked)
		}
	}
}
