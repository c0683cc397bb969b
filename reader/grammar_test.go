package reader_test

import (
	"testing"

	"whelk/api"
	"whelk/reader"
)

func TestOneCommand_P13_1(t *testing.T) {
	reads(t, nil, [][2]string{
		{"a", "[a]"}, {"a;", "[a]"}, {"a&", "back([a])"}, {"a;b", "[a]; [b]"}, {"a&b", "back([a]); [b]"}, {"a & b & \n", "back([a]); back([b])"},
		{"a&&b||c", "or(and([a])([b]))([c])"}, {"a||b&&c||d&", "back(or(and(or([a])([b]))([c]))([d]))"}, {"a &&\n\n#c\n b", "and([a])([b])"}, {"a||\nb", "or([a])([b])"},
		{"a|b|c", "pipe([a])([b])([c])"}, {"a |\n\n b", "pipe([a])([b])"}, {"!a", "[!a]"}, {"! a", "!pipe([a])"}, {"! a|b", "!pipe([a])([b])"}, {"a&&! b", "and([a])(!pipe([b]))"}, {"! (a)", "!pipe(sub([a]))"},
		{"a | (b) && { c; }", "and(pipe([a])(sub([b])))(group([c]))"}, {"a ! b", "[a ! b]"},
	})
	lacks(t, "a |", "a &&", "a || \n", "! ", "!", "a && ! ", "a |\n")
	wrongAt(t, nil, "^;", "^&", "^&& a", "^| a", "a; ^;", "a^;;", "a ^;; b", "a&^;", "a&&^&b", "a& ^&& b", "a;^&", "a&& ^| b", "a && ^; b", "! ^! a", "a | ^! b", "a |^& b", "! ^\n a", "a ^) b", "a & ^)", "^)", "a||^||")
}

func TestSimple_P13_1(t *testing.T) {
	reads(t, nil, [][2]string{
		{"a b  c", "[a b c]"}, {"x=1", "[x=1]"}, {"x= y=2 a z=3", "[x= y=2 a z=3]"}, {"x=1 >f y=2 a", "[x=1 y=2 a 1>f]"}, {">f", "[1>f]"}, {">f <g", "[1>f 0<g]"}, {"a >f b", "[a b 1>f]"},
		{"x==", "[x==]"}, {"x=a=b", "[x=a=b]"}, {"=a", "[=a]"}, {"1=a", "[1=a]"}, {"x+=a", "[x+=a]"}, {`x\=1`, "[x.'='.1]"}, {`'x'=1`, "['x'.=1]"}, {"x$y=1", "[x.${y}.=1]"}, {"_x1=#", "[_x1=#]"}, {"x=\"a b\"c", `[x="a b".c]`},
		{"x=1 if", "[x=1 if]"}, {"x=1 >f then", "[x=1 then 1>f]"}, {"a if then }", "[a if then }]"}, {"'if'", "['if']"}, {`\if`, "['i'.f]"}, {"iff", "[iff]"}, {"{a", "[{a]"}, {"}a", "[}a]"}, {"$x", "[${x}]"}, {"i\\\nf", "[i.''.f]"},
	})
	wrongAt(t, nil, "a (^;", "a b^()", "x=^(a)", "x=1 a^()", ">f a^()", "1a^()", "'a'^()", ">f ^if", ">f ^then", "^then", "^in", "^in a", "^do", "^done", "^fi", "^}", "^esac", "^else", "^elif a")
}

func TestRedirections_P13_1(t *testing.T) {
	reads(t, nil, [][2]string{
		{"<a", "[0<a]"}, {">a", "[1>a]"}, {">|a", "[1>a]"}, {">>a", "[1>>a]"}, {"<>a", "[0<>a]"}, {"<&a", "[0>&a]"}, {">&a", "[1>&a]"}, {"2>a", "[2>a]"}, {"0>a", "[0>a]"}, {"1<a", "[1<a]"}, {"2>&1", "[2>&1]"}, {"2<&-", "[2>&-]"}, {"99<>a", "[99<>a]"}, {"07>>a", "[7>>a]"}, {"00>|a", "[0>a]"},
		{"a 2>b", "[a 2>b]"}, {"a 2 >b", "[a 2 1>b]"}, {"a2>b", "[a2 1>b]"}, {"> a", "[1>a]"}, {">$x", "[1>${x}]"}, {"> if", "[1>if]"}, {">x=1", "[1>x=1]"}, {">a>b", "[1>a 1>b]"}, {"'2'>a", "['2' 1>a]"}, {">\\\n a", "[1>a]"}, {"3>a 4>b c 5>d", "[c 3>a 4>b 5>d]"},
	})
	lacks(t, ">", "a 2>", "a <&", "<<", "<<-", "a > #b")
	wrongAt(t, nil, ">^;", "> ^\na", "> ^>a", "> ^2>a", "a ^123>b", "^000<a", "a >^(", ">^)", "< ^&", "a 2> ^&a", "<<^\n", "<<^;")
}

func TestGroups_P13_1(t *testing.T) {
	reads(t, nil, [][2]string{
		{"{ a; }", "group([a])"}, {"{ a\n}", "group([a])"}, {"{\na& }", "group(back([a]))"}, {"{\n\na;\n\nb\n\n}", "group([a]; [b])"}, {"{ a & b; c &\nd\n}", "group(back([a]); [b]; back([c]); [d])"},
		{"(a)", "sub([a])"}, {"( a; b )", "sub([a]; [b])"}, {"(\na\n)", "sub([a])"}, {"((a))", "sub(sub([a]))"}, {"{ (a) }", "group(sub([a]))"}, {"{ { a; } }", "group(group([a]))"}, {"{ f() (a) }", "group(func f(sub([a])))"},
		{"{ a }; }", "group([a }])"}, {"{ x=1 }; }", "group([x=1 }])"}, {"{ >f }", "group([1>f])"}, {"(a&)", "sub(back([a]))"}, {"(a|b&&c)", "sub(and(pipe([a])([b]))([c]))"},
		{"{ a; } >f 2>&1", "group 1>f 2>&1([a])"}, {"(a)<f|b", "pipe(sub 0<f([a]))([b])"}, {"(a)2>f", "sub 2>f([a])"}, {"{ a; }>f&", "back(group 1>f([a]))"},
	})
	lacks(t, "{", "{ ", "{ a", "{ a }", "{ a;", "{ a; \n", "(", "(a", "(a;", "(a;\n\n", "{ (a)", "{ { a; }")
	wrongAt(t, nil, "{ ^}", "(^)", "{ ^;", "(^;)", "{ a; ^; }", "{ a\n^; }", "{ a; ^)", "( a; ^}", "(a) ^b", "{ a; } ^b", "{ a; } ^x=1", "{ a; } ^}", "(a) ^(b)", "{ a; } ^{", "(a\n^& b)", "{ a; ^then", "(a ^;;)", "(a) ^if", "{ (a) ^b; }", "{ (a) ^)")
}

func TestIf_P13_1(t *testing.T) {
	reads(t, nil, [][2]string{
		{"if a; then b; fi", "if([a])([b])"}, {"if a\nthen\nb\nfi", "if([a])([b])"}, {"if\na&then b;c;fi", "if(back([a]))([b]; [c])"}, {"if a;b;then c;else d;fi", "if([a]; [b])([c])([d])"},
		{"if a; then b; elif c; then d; fi", "if([a])([b])([c])([d])"}, {"if a; then b; elif c; then d; elif e; then f; else g; fi <h", "if 0<h([a])([b])([c])([d])([e])([f])([g])"},
		{"if (a) then (b) else (c) fi", "if(sub([a]))(sub([b]))(sub([c]))"}, {"if if a; then b; fi then c; fi", "if(if([a])([b]))([c])"}, {"if >f then >g fi", "if([1>f])([1>g])"}, {"if ! a; then b fi; fi", "if(!pipe([a]))([b fi])"},
	})
	lacks(t, "if", "if a", "if a;", "if a; then", "if a; then b; el", "if a; then b; else", "if a; then b; elif c;", "if a; then b; elif c; then d\n")
	wrongAt(t, nil, "if ^;", "if ^then", "if a; then ^fi", "if a; ^fi", "if a; ^else", "if a; then b; else ^fi", "if a; then b; else c; ^else", "if a; then b; else c; ^elif", "if a; then b; elif ^then", "if a; then b; elif c; ^fi", "if a; ^do", "if a; then b; ^done", "if a; then b; fi ^fi", "if (a) ^b", "if a^)", "if a; then b; fi ^c", "if a; ^in")
}

func TestLoops_P13_1(t *testing.T) {
	reads(t, nil, [][2]string{
		{"while a; do b; done", "while([a])([b])"}, {"until a\ndo\nb\ndone >f", "until 1>f([a])([b])"}, {"while a;b; do c&done", "while([a]; [b])(back([c]))"}, {"while (a) do (b) done", "while(sub([a]))(sub([b]))"},
		{"for x do a; done", "for x([a])"}, {"for x; do a; done", "for x([a])"}, {"for x\ndo a; done", "for x([a])"}, {"for x;\n\ndo\na; done", "for x([a])"}, {"for x\n\n#c\ndo a; done", "for x([a])"},
		{"for x in; do a; done", "for x in([a])"}, {"for x in\ndo a; done", "for x in([a])"}, {"for x in b $c 'd'; do a; done", "for x in b ${c} 'd'([a])"}, {"for x\n\nin b\n\ndo a; done >f", "for x in b 1>f([a])"}, {"for x in b;\ndo a; done", "for x in b([a])"},
		{"for if in in do done; do a; done", "for if in in do done([a])"}, {"for in in y=1\ndo a; done", "for in in y=1([a])"}, {"for in do a; done", "for in([a])"}, {"for do do a; done", "for do([a])"}, {"for x in do\ndo a; done", "for x in do([a])"},
	})
	lacks(t, "while", "while a", "until a; do", "while a; do b", "for", "for x", "for x\n", "for x;", "for x in", "for x in a", "for x in a do b", "for x in a;", "for x in a\n", "for x do", "for x do a")
	wrongAt(t, nil, "while ^do", "while a; ^done", "while a; do ^done", "while a; do b; ^fi", "until a; ^then", "while a; do b; done ^done", "for ^1", "for ^;", "for ^\n", "for ^x=1", "for ^'x'", "for ^$x", "for ^x-y", "for ^2>f", "for x ^a", "for x ^(", "for x\n^; do a; done", "for x; ^;", "for x^;;", "for x; ^in a; do b; done", "for x in a\n^; do", "for x in a ^& do", "for x in a ^2>f", "for x in a; ^b", "for x in a do b; ^done", "for x ^in\\\n", "for x do ^done")
}

func TestSwitch_P13_1(t *testing.T) {
	reads(t, nil, [][2]string{
		{"case a in esac", "switch a"}, {"case a\n\nin\n\nesac", "switch a"}, {"case a in b) c;; esac", "switch a{b: [c]}"}, {"case a in (b) c;; esac", "switch a{b: [c]}"}, {"case a in b|c) d;;\n\n(e | $f) g\n;; esac >h", "switch a 1>h{b|c: [d]}{e|${f}: [g]}"},
		{"case a in b) esac", "switch a{b: }"}, {"case a in b) ;; esac", "switch a{b: }"}, {"case a in b)\n\n;;c)\nesac", "switch a{b: }{c: }"}, {"case a in b) c; esac", "switch a{b: [c]}"}, {"case a in b) c\nesac", "switch a{b: [c]}"}, {"case a in b) c;d& ;; esac", "switch a{b: [c]; back([d])}"}, {"case a in b) (c) esac", "switch a{b: sub([c])}"},
		{"case a in b) c; ;; esac", "switch a{b: [c]}"}, {"case a in b) c;;esac", "switch a{b: [c]}"}, {"case in in in) in=1;; esac", "switch in{in: [in=1]}"}, {"case if in (esac) a;; esac", "switch if{esac: [a]}"}, {"case a in b|esac) c;; esac", "switch a{b|esac: [c]}"}, {"case x=1 in y=2) a;; esac", "switch x=1{y=2: [a]}"},
		{"case a in b) case c in d) e;; esac;; esac", "switch a{b: switch c{d: [e]}}"}, {"case a in if) b;; then) c;; esac", "switch a{if: [b]}{then: [c]}"}, {"case a in b) >f esac", "switch a{b: [1>f]}"},
	})
	lacks(t, "case", "case a", "case a\n", "case a in", "case a in\n", "case a in b", "case a in (", "case a in b|", "case a in b)", "case a in b) c", "case a in b) c;;", "case a in b) c;", "case a in b) c esac", "case a in b) c;;\n")
	wrongAt(t, nil, "case ^\n", "case ^;", "case ^2>f", "case a ^b", "case a ^;", "case a in ^;;", "case a in ^)", "case a in b ^c", "case a in b^\n)", "case a in b|^\nc)", "case a in (^)", "case a in b|^)", "case a in b) c^)", "case a in b) c;; ^;;", "case a in esac^)", "case a in ^2>", "case a in b) ^;", "case a in b) c; d^) e", "case a in b) c;; esac ^d", "case a in b) (c) ^d", "case a in b) c; ^}", "case a in b) ^then", "case a in b);; ^& esac")
}

func TestFunc_P13_1(t *testing.T) {
	reads(t, nil, [][2]string{
		{"f() { a; }", "func f(group([a]))"}, {"f ( )\n\n(a)", "func f(sub([a]))"}, {"f()if a; then b; fi", "func f(if([a])([b]))"}, {"f() while a; do b; done", "func f(while([a])([b]))"}, {"f() until a; do b; done", "func f(until([a])([b]))"}, {"f()\n#c\nfor x do a; done", "func f(for x([a]))"}, {"f() case a in esac", "func f(switch a)"},
		{"f() { a; } >b 2<c", "func f(group 1>b 2<c([a]))"}, {"f() (a)|b", "pipe(func f(sub([a])))([b])"}, {"f() (a)&&g() (b)", "and(func f(sub([a])))(func g(sub([b])))"}, {"_1() (a) &", "back(func _1(sub([a])))"}, {"! f() (a)", "!pipe(func f(sub([a])))"},
	})
	lacks(t, "f(", "f()", "f()\n", "f() {", "f() (a")
	wrongAt(t, nil, "f(^a)", "f(^\n)", "f() ^a", "f() ^>b", "f() ^g() (a)", "f() ^! (a)", "f()^;", "f() (a) ^b", "if (^) (a)", "f() ^then", "f() ^x=1", "f-g^() (a)", "f=^(a)")
}

// What is wrong first is told: what stands behind is not looked at, be it a thing that does not end.
func TestFirstWrong_P13_2(t *testing.T) {
	wrongAt(t, nil, "a ^) \"", "a; ^; ${", "a $(^; ) ${} ) '", "a ${^} $(;) )", "if a; ^fi \"", "a ^123>f \"", ">f ^if \"", "f() ^a \"", "for ^1 '", "case a in b ^c `", "a $(b;\n^;c) )", "^) $(", "x=${^} )", "{ a; } ^b ${}", "a >${^} )", "for ^${} in", "a $((1^#)) '")
	failsWith(t, nil, []fault{
		{"a \"b", 4, api.ErrMore}, {"a \"b ) ;;", 9, api.ErrMore}, {"a; $(b ;;", 9, api.ErrMore}, {"a ${b ) c", 9, api.ErrMore}, {"a `b ) c", 8, api.ErrMore}, {"a 'b\n)", 6, api.ErrMore}, {"a \\", 3, api.ErrMore}, {"\\", 1, api.ErrMore}, {"a b \"c\nd ) \n", 12, api.ErrMore}, {"f \"", 3, api.ErrMore}, {"a;\"", 3, api.ErrMore}, {"\n\"", 2, api.ErrMore},
	})
}

// A nil alias knows none; one that panics is an argument that may not be.
func TestNoAlias_R1(t *testing.T) {
	if l, at, place, e := reader.Line("a b", 0, func(string) (string, bool) { panic("no") }); len(l) != 0 || at != 0 || place != 0 || e != api.ErrArg {
		t.Error(told(l), at, place, e)
	}
	if l, place, e := reader.Program("a b", func(string) (string, bool) { panic("no") }); len(l) != 0 || place != 0 || e != api.ErrArg {
		t.Error(told(l), place, e)
	}
	reads(t, nil, [][2]string{{"a b", "[a b]"}})
}
