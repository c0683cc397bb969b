package reader_test

import (
	"slices"
	"strings"
	"testing"

	"whelk/api"
	"whelk/reader"
	"whelk/trees"
)

func TestExamples_P13_1(t *testing.T) {
	reads(t, nil, [][2]string{
		{"a|b &&\nc&", "back(and(pipe([a])([b]))([c]))"},
		{`x=$(b "c$y") d`, `[x=$([b "c.${y}"]) d]`},
	})
	reads(t, aliases(map[string]string{"ll": "ls -l ", "x": "y"}), [][2]string{{"ll x", "[ls -l y]"}})
	failsWith(t, nil, []fault{{"if a; then b", 12, api.ErrMore}, {"a )", 2, api.ErrSyntax}})
}

func TestLineArguments_P13_1(t *testing.T) {
	great := strings.Repeat("a", 4097)
	for i, c := range []struct {
		s  string
		at int
		e  api.Errno
	}{
		{great, 0, api.ErrBig}, {great, -1, api.ErrBig}, {great, 4098, api.ErrBig}, {great[1:], 0, api.OK}, {great[1:], 4096, api.OK}, {great[1:], 4097, api.ErrArg},
		{"a", -1, api.ErrArg}, {"a", 2, api.ErrArg}, {"a", 1, api.OK}, {"", 0, api.OK}, {"", 1, api.ErrArg}, {"", -1, api.ErrArg}, {") ", -1, api.ErrArg},
	} {
		l, at, place, e := reader.Line(c.s, c.at, nil)
		if e != c.e || place != 0 || e != api.OK && (len(l) != 0 || at != 0) {
			t.Error(i, told(l), at, place, e)
		}
	}
}

func TestLinePlaces_P13_1(t *testing.T) {
	for _, c := range []struct {
		s        string
		from, at int
		told     string
	}{
		{"", 0, 0, ""}, {"a", 1, 1, ""}, {"  ", 0, 2, ""}, {"\n\n", 0, 2, ""}, {" # a", 0, 4, ""}, {"\n # a\n\t\\\n", 0, 9, ""},
		{"a\nb\n", 0, 2, "[a]"}, {"a\nb\n", 2, 4, "[b]"}, {"a\nb\n", 1, 4, "[b]"}, {"a\nb", 2, 3, "[b]"}, {"a\n\nb", 0, 2, "[a]"},
		{"\n\n a; b \n c", 0, 9, "[a]; [b]"}, {"a #b\nc", 0, 5, "[a]"}, {"a #b", 0, 4, "[a]"}, {"a  ", 0, 3, "[a]"}, {"a \\\n", 0, 4, "[a]"},
		{"abc", 1, 3, "[bc]"}, {"x2>f", 1, 4, "[2>f]"}, {"a\n)", 0, 2, "[a]"}, {"a\n\"", 0, 2, "[a]"},
	} {
		l, at, place, e := reader.Line(c.s, c.from, nil)
		if told(l) != c.told || at != c.at || place != 0 || e != api.OK {
			t.Errorf("%q from %d: %s, %d, %d, %v", c.s, c.from, told(l), at, place, e)
		}
	}
	// It is read as if the text began there.
	if l, at, place, e := reader.Line("a 'b' c", 3, nil); len(l) != 0 || at != 0 || place != 7 || e != api.ErrMore {
		t.Error(told(l), at, place, e)
	}
}

func TestProgram_P13_1(t *testing.T) {
	ab := aliases(map[string]string{"a": "b"})
	for _, c := range []struct {
		s, told string
		place   int
		e       api.Errno
	}{
		{"", "", 0, api.OK}, {"\n\n", "", 0, api.OK}, {"a", "[b]", 0, api.OK}, {"\na;c\n\n(a)\n#x", "[b]; [c]; sub([b])", 0, api.OK},
		{"cat <<E; a\n$x\nE\na\n", "[cat 0<<\"${x}.\n\"]; [b]; [b]", 0, api.OK},
		{"a\n)", "", 2, api.ErrSyntax}, {"a\nb \"", "", 5, api.ErrMore}, {"a\nif b\n", "", 7, api.ErrMore}, {"a\ncat <<E\n", "", 10, api.ErrMore},
		{strings.Repeat("a", 4097), "", 0, api.ErrBig}, {strings.Repeat("\n", 4096), "", 0, api.OK},
	} {
		l, place, e := reader.Program(c.s, ab)
		if told(l) != c.told || place != c.place || e != c.e {
			t.Errorf("%q: %s, %d, %v", c.s, told(l), place, e)
		}
	}
	if l, _, e := reader.Program("a", nil); told(l) != "[a]" || e != api.OK {
		t.Error(told(l), e)
	}
}

func TestWord_P13_1(t *testing.T) {
	for _, c := range []struct {
		s, told string
		place   int
		e       api.Errno
	}{
		{"a", "a", 0, api.OK}, {" a\t#c", "a", 0, api.OK}, {"if", "if", 0, api.OK}, {"x=1", "x=1", 0, api.OK}, {"2", "2", 0, api.OK},
		{`a'b c'"$d"`, `a.'b c'."${d}"`, 0, api.OK}, {"$(a;b\nc)", "$([a]; [b]; [c])", 0, api.OK}, {"''", "''", 0, api.OK}, {"\\\na", "a", 0, api.OK},
		{"", "", 0, api.ErrArg}, {" #a", "", 0, api.ErrArg}, {"a b", "", 0, api.ErrArg}, {"a\n", "", 0, api.ErrArg}, {"\n", "", 0, api.ErrArg}, {";", "", 0, api.ErrArg}, {"2>", "", 0, api.ErrArg}, {"a;", "", 0, api.ErrArg}, {"(", "", 0, api.ErrArg},
		{`"a`, "", 2, api.ErrMore}, {"a$(b", "", 4, api.ErrMore}, {`a\`, "", 2, api.ErrMore}, {`a "b`, "", 4, api.ErrMore},
		{"a${}", "", 3, api.ErrSyntax}, {" $(a;;)", "", 4, api.ErrSyntax}, {"$((#))", "", 3, api.ErrSyntax}, {"x=${}", "", 4, api.ErrSyntax},
		{strings.Repeat("a", 4097), "", 0, api.ErrBig}, {"\"" + strings.Repeat("a", 4096), "", 0, api.ErrBig}, {strings.Repeat("a", 4096), strings.Repeat("a", 4096), 0, api.OK},
	} {
		w, place, e := reader.Word(c.s)
		if toldWord(w) != c.told || place != c.place || e != c.e {
			t.Errorf("%.20q: %.40s, %d, %v", c.s, toldWord(w), place, e)
		}
	}
}

func TestDeep_P13_2(t *testing.T) {
	// A Simple is one, with a word two; each ( ) is one more.
	nested := func(n int) string { return strings.Repeat("(", n) + "a" + strings.Repeat(")", n) }
	// A Simple and a Command are two.
	inCommands := func(n int) string { return strings.Repeat("$(", n) + "a" + strings.Repeat(")", n) }
	for _, c := range []struct {
		s     string
		place int
		e     api.Errno
	}{
		{nested(38), 0, api.OK}, {nested(39), 0, api.ErrDeep}, {"\n a;" + nested(39), 2, api.ErrDeep}, {"a\n" + nested(39), 2, api.ErrDeep},
		{nested(39)[:78], 78, api.ErrMore}, {nested(39) + ")", 79, api.ErrSyntax},
		{inCommands(19), 0, api.OK}, {inCommands(20), 0, api.ErrDeep}, {"a " + inCommands(20), 0, api.ErrDeep}, {inCommands(21), 2, api.ErrDeep}, {"b\na $( \n c; " + inCommands(20) + ")", 9, api.ErrDeep},
		{"a $(b\n" + nested(39) + ")", 6, api.ErrDeep}, {"a \"$( " + nested(39) + ")\"", 6, api.ErrDeep}, {"a `b;" + nested(39) + "`", 2, api.ErrDeep}, {"a $( " + nested(37) + ")", 0, api.ErrDeep}, {"a $( " + nested(36) + ")", 0, api.OK},
		{"cat <<E\na $( " + nested(39) + ")\nE\n", 8, api.ErrDeep},
		{strings.Repeat("a|a;", 500), 0, api.OK}, {"a" + strings.Repeat("&&a", 38), 0, api.OK}, {"a" + strings.Repeat("&&a", 39), 0, api.ErrDeep},
		{"a " + strings.Repeat("\"${x-", 19) + strings.Repeat("}\"", 19), 0, api.OK}, {" a " + strings.Repeat("\"${x-", 20) + strings.Repeat("}\"", 20), 1, api.ErrDeep},
	} {
		l, place, e := reader.Program(c.s, nil)
		if place != c.place || e != c.e || e == api.OK && trees.Deep(l) > 40 {
			t.Errorf("%q: %d, %d, %v, not %d, %v", c.s, trees.Deep(l), place, e, c.place, c.e)
		}
	}
}

func TestLongScripts_R1(t *testing.T) {
	for _, s := range []string{"(", "{ ", "if ", "! ", "$(", "${x-", "\"", "\"${x-", "`", "$((", "$((1+", "a|", "a&&", "case a in ", "f()", "<<E ", "\\", "while ", "for a in ", "$", "2>", "x="} {
		for _, behind := range []string{"", ")", "}", "a", "\n", ";", "}\""} {
			long := strings.Repeat(s, 4096/(len(s)+len(behind))) + strings.Repeat(behind, 4096/(len(s)+len(behind)))
			_, place, e := reader.Program(long, nil)
			if place < 0 || place > len(long) || !slices.Contains([]api.Errno{api.OK, api.ErrMore, api.ErrSyntax, api.ErrDeep}, e) {
				t.Errorf("%.20q: %d, %v", long, place, e)
			}
		}
	}
}

// spoil writes into all lists of a word, and of commands, and behind them as far as they have room.
func spoilWord(w api.Word) {
	for i := range w {
		spoilWord(w[i].Kids)
		spoil(w[i].Body)
	}
	for i := range w[:cap(w)] {
		w[:cap(w)][i] = api.Piece{Kind: -1}
	}
}

func spoilWords(l []api.Word) {
	for _, w := range l {
		spoilWord(w)
	}
	for i := range l[:cap(l)] {
		l[:cap(l)][i] = nil
	}
}

func spoil(l []api.Node) {
	for _, n := range l {
		for _, s := range n.Sets {
			spoilWord(s.Word)
		}
		clear(n.Sets[:cap(n.Sets)])
		spoilWords(n.Words)
		for _, r := range n.Redirs {
			spoilWord(r.Word)
		}
		clear(n.Redirs[:cap(n.Redirs)])
		for _, l := range n.Lists {
			spoil(l)
		}
		clear(n.Lists[:cap(n.Lists)])
		for _, c := range n.Cases {
			spoilWords(c.Words)
			spoil(c.Body)
		}
		clear(n.Cases[:cap(n.Cases)])
	}
	clear(l[:cap(l)])
}

// No two lists of an answer share anything: what is written into one command's lists is not seen in the other ones.
func TestAnswersAreNew_R2(t *testing.T) {
	part := "x=$(a $((1+$b)) \"c$d\") y='z' f g ${h:-$(i)} >j <<E && ! k | { l; m & } 2>n || if o; then p; elif q; then r; else s; fi"
	part += "; for t in u v; do w; done; case x in y|z) a;; (b) c; d; esac; while e; do f; done; g() (h; i)\n$j `k`\nE\n"
	s := part + part + "a; b; c; d; e\n"
	l, _, e := reader.Program(s, nil)
	if e != api.OK {
		t.Fatal(e)
	}
	want := make([]string, len(l))
	for i, n := range l {
		want[i] = toldNode(n)
	}
	for i := range l {
		again, _, _ := reader.Program(s, nil)
		one := []api.Node{again[i]}
		spoil(one[:1:1])
		for k, n := range again {
			if k != i && toldNode(n) != want[k] {
				t.Errorf("%d is written into, and %d is %s", i, k, toldNode(n))
			}
		}
	}
	again, _, _ := reader.Program(s, nil)
	if !trees.Same(l, again) {
		t.Error("what is answered is not the caller's")
	}
}
