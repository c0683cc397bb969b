package marks_test

import (
	"slices"
	"strings"
	"testing"

	"whelk/api"
	"whelk/marks"
)

// text is a marked text as the chapter tells it: quoted bytes stand between < and >.
func text(s string) []marks.Char {
	var out []marks.Char
	quoted := false
	for _, b := range []byte(s) {
		if b == '<' || b == '>' {
			quoted = b == '<'
			continue
		}
		out = append(out, marks.Char{B: b, Q: quoted})
	}
	return out
}

// told is a marked text in the chapter's way of telling it.
func told(t []marks.Char) string {
	var out strings.Builder
	for _, c := range t {
		if c.Q {
			out.WriteString("<" + string([]byte{c.B}) + ">")
		} else {
			out.WriteByte(c.B)
		}
	}
	return out.String()
}

// everyByte is all 256 bytes, in order: none of them is special to a text.
func everyByte() string {
	var all [256]byte
	for i := range all {
		all[i] = byte(i)
	}
	return string(all[:])
}

// everyText calls f with each marked text of up to most bytes out of alphabet, each byte quoted or bare.
func everyText(alphabet string, most int, f func([]marks.Char)) {
	var grow func(t []marks.Char)
	grow = func(t []marks.Char) {
		f(t)
		if len(t) == most {
			return
		}
		for _, b := range []byte(alphabet) {
			for _, q := range []bool{false, true} {
				grow(append(slices.Clone(t), marks.Char{B: b, Q: q}))
			}
		}
	}
	grow(nil)
}

func TestOf_P1_1(t *testing.T) {
	for _, s := range []string{"", "a", "ab c", "\x00\n'\\\xff", "\u00e9", everyByte()} {
		for _, quoted := range []bool{false, true} {
			got := marks.Of(s, quoted)
			if len(got) != len(s) {
				t.Fatalf("Of(%q, %v) has %d bytes", s, quoted, len(got))
			}
			for i, c := range got {
				if c != (marks.Char{B: s[i], Q: quoted}) {
					t.Errorf("Of(%q, %v)[%d] = %v", s, quoted, i, c)
				}
			}
			if marks.Plain(got) != s {
				t.Errorf("Plain(Of(%q, %v)) = %q", s, quoted, marks.Plain(got))
			}
		}
	}
}

func TestPlain_P1_1(t *testing.T) {
	for s, want := range map[string]string{"": "", "a<b>c": "abc", "<ab>": "ab", "<\\>'": "\\'"} {
		if got := marks.Plain(text(s)); got != want {
			t.Errorf("Plain(%s) = %q", s, got)
		}
	}
	if marks.Plain(nil) != "" {
		t.Error("Plain(nil)")
	}
}

func TestJoin_P1_1(t *testing.T) {
	for _, x := range []struct {
		parts []string
		want  string
	}{
		{nil, ""},
		{[]string{""}, ""},
		{[]string{"", "", ""}, ""},
		{[]string{"a<b>"}, "a<b>"},
		{[]string{"a", "", "<b>c", "a"}, "a<b>ca"},
		{[]string{"b", "a"}, "ba"},
	} {
		var l [][]marks.Char
		for _, p := range x.parts {
			l = append(l, text(p))
		}
		if got := marks.Join(l...); !slices.Equal(got, text(x.want)) {
			t.Errorf("Join(%q) = %s", x.parts, told(got))
		}
	}
}

func TestRuns_P1_1(t *testing.T) {
	for s, want := range map[string][]marks.Run{
		"":           nil,
		"a":          {{Text: "a"}},
		"<a>":        {{Text: "a", Q: true}},
		"ab<c>d":     {{Text: "ab"}, {Text: "c", Q: true}, {Text: "d"}},
		"<a><b>cc":   {{Text: "ab", Q: true}, {Text: "cc"}},
		"<a>b<c>":    {{Text: "a", Q: true}, {Text: "b"}, {Text: "c", Q: true}},
		"aa<a><a\n>": {{Text: "aa"}, {Text: "aa\n", Q: true}},
	} {
		if got := marks.Runs(text(s)); !slices.Equal(got, want) {
			t.Errorf("Runs(%s) = %v", s, got)
		}
	}
}

func TestFind_P1_2(t *testing.T) {
	for _, x := range []struct {
		s    string
		b    byte
		want int
	}{
		{"", ':', -1}, {"ab", ':', -1}, {"<:>", ':', -1}, {"<a:b:>", ':', -1},
		{":", ':', 0}, {"a:b:", ':', 1}, {"<:>:", ':', 1}, {"ab:", ':', 2},
		{"a\x00", 0, 1}, {"", 0, -1}, {"<\xff>\xff", 0xff, 1},
	} {
		if got := marks.Find(text(x.s), x.b); got != x.want {
			t.Errorf("Find(%q, %q) = %d", x.s, x.b, got)
		}
	}
}

func TestPart_P1_2(t *testing.T) {
	for s, want := range map[string][]string{
		"":         {""},
		"ab":       {"ab"},
		":":        {"", ""},
		"::":       {"", "", ""},
		":a":       {"", "a"},
		"a:<:>b:":  {"a", "<:>b", ""},
		"<:>":      {"<:>"},
		"a::<b>:c": {"a", "", "<b>", "c"},
	} {
		got := marks.Part(text(s), ':')
		same := slices.EqualFunc(got, want, func(p []marks.Char, w string) bool { return slices.Equal(p, text(w)) })
		if !same {
			t.Errorf("Part(%s) = %v", s, got)
		}
	}
}

func TestStrip_P1_2(t *testing.T) {
	for _, x := range []struct{ s, set, want string }{
		{"", "", ""}, {"", " ", ""}, {" a ", "", " a "},
		{"  < >a  ", " ", "< >a"},
		{" a b ", " ", "a b"},
		{" \t a\t ", " \t", "a"}, {" \t a\t ", " ", "\t a\t"},
		{"    ", " ", ""}, {"< >", " ", "< >"}, {" < > ", " ", "< >"},
		{"xay", "xy", "a"}, {"a< >", " ", "a< >"}, {"< >a ", " ", "< >a"},
		{"\xff\x00a\xff", "\x00\xff", "a"},
		{"\xc3a\xa9", "\u00e9", "a"}, {"\xc2a", "\u00e9", "\xc2a"},
	} {
		if got := marks.Strip(text(x.s), x.set); !slices.Equal(got, text(x.want)) {
			t.Errorf("Strip(%q, %q) = %q", x.s, x.set, told(got))
		}
	}
}

func TestHard_P1_2(t *testing.T) {
	for s, want := range map[string][2]bool{
		"": {false, true}, "a": {false, false}, "<a>": {true, true},
		"a<b>": {true, false}, "<a>b": {true, false}, "<ab>": {true, true}, "a<b>c": {true, false},
	} {
		if some, all := marks.Hard(text(s)); some != want[0] || all != want[1] {
			t.Errorf("Hard(%s) = %v, %v", s, some, all)
		}
	}
}

func TestEscape_P1_3(t *testing.T) {
	for s, want := range map[string]string{
		"":           "",
		"a<*>":       `a\*`,
		"a b\n":      "a b\n",
		"<\n>":       "'\n'",
		"<\n\n>":     "'\n''\n'",
		"a<\n>\n":    "a'\n'\n",
		`<\>`:        `\\`,
		"<'>":        `\'`,
		"<ab>c<d>":   `\a\bc\d`,
		"<\x00>\xff": "\\\x00\xff",
	} {
		if got := marks.Escape(text(s)); got != want {
			t.Errorf("Escape(%q) = %q", s, got)
		}
	}
}

func TestEscapeCannot_P1_3(t *testing.T) {
	for _, s := range []string{`\`, "'", `a\`, "a'b", `<a>\<b>`, `<'>'`, `<\>\`} {
		if got := marks.Escape(text(s)); got != "" {
			t.Errorf("Escape(%q) = %q", s, got)
		}
	}
}

func TestRead_P1_3(t *testing.T) {
	for s, want := range map[string]string{
		"":           "",
		`a'b c'\d`:   "a<b cd>",
		"a\n":        "a\n",
		"''":         "",
		"a''b":       "ab",
		`\\`:         `<\>`,
		`\'`:         "<'>",
		`\'a\'`:      "<'>a<'>",
		"a\\\nb":     "ab",
		"\\\n":       "",
		"'\n'":       "<\n>",
		`'\'`:        `<\>`,
		`'\'\'`:      `<\'>`,
		`'a''b'c`:    "<ab>c",
		"'\\\n'":     "<\\\n>",
		"\\\x00\xff": "<\x00>\xff",
	} {
		got, e := marks.Read(s)
		if !slices.Equal(got, text(want)) || e != api.OK {
			t.Errorf("Read(%q) = %q, %v", s, told(got), e)
		}
	}
}

func TestReadMore_P1_3(t *testing.T) {
	for _, s := range []string{"'", "'a", "ab'", "'a'b'", "'''", `\`, `a\`, `\\\`, `'\`, `''\`, `'\'\`, `\''`} {
		if got, e := marks.Read(s); len(got) != 0 || e != api.ErrMore {
			t.Errorf("Read(%q) = %q, %v", s, told(got), e)
		}
	}
}

// readByStates reads byte by byte, remembering only whether it stands behind a \ or within quotes.
func readByStates(s string) ([]marks.Char, api.Errno) {
	var out []marks.Char
	behind, within := false, false
	for _, b := range []byte(s) {
		switch {
		case within && b == '\'', !within && !behind && b == '\'':
			within = !within
		case within:
			out = append(out, marks.Char{B: b, Q: true})
		case behind:
			if b != '\n' {
				out = append(out, marks.Char{B: b, Q: true})
			}
			behind = false
		case b == '\\':
			behind = true
		default:
			out = append(out, marks.Char{B: b})
		}
	}
	if behind || within {
		return nil, api.ErrMore
	}
	return out, api.OK
}

func TestReadAll_P1_3(t *testing.T) {
	var grow func(s string)
	grow = func(s string) {
		got, e := marks.Read(s)
		want, we := readByStates(s)
		if !slices.Equal(got, want) || e != we {
			t.Errorf("Read(%q) = %q, %v", s, told(got), e)
		}
		if len(s) < 7 {
			for _, b := range []string{"a", "\\", "'", "\n"} {
				grow(s + b)
			}
		}
	}
	grow("")
}

func TestChomp_P1_4(t *testing.T) {
	for s, want := range map[string]string{
		"": "", "\n": "", "\n\n\n": "", "a": "a", "a\n": "a", "a\n\n": "a",
		"a\nb": "a\nb", "\na\n": "\na", "a\r\n": "a\r", "a\n ": "a\n ", "\xff\n": "\xff", "a\x00\n": "a\x00",
	} {
		if got := marks.Chomp(s); got != want {
			t.Errorf("Chomp(%q) = %q", s, got)
		}
	}
}

func TestReadEscape_P1_5(t *testing.T) {
	everyText("a\n'\\:", 4, func(x []marks.Char) {
		s := marks.Escape(x)
		if marks.Find(x, '\\') >= 0 || marks.Find(x, '\'') >= 0 {
			if s != "" {
				t.Errorf("Escape(%q) = %q", told(x), s)
			}
			return
		}
		if got, e := marks.Read(s); !slices.Equal(got, x) || e != api.OK {
			t.Errorf("Read(Escape(%q)) = %q, %v", told(x), told(got), e)
		}
	})
	for _, quoted := range []bool{false, true} {
		x := marks.Of(everyByte(), quoted)
		if !quoted {
			x = slices.DeleteFunc(x, func(c marks.Char) bool { return c.B == '\\' || c.B == '\'' })
		}
		if got, e := marks.Read(marks.Escape(x)); !slices.Equal(got, x) || e != api.OK {
			t.Errorf("every byte, quoted %v: %v", quoted, e)
		}
	}
}

func TestRunsAreTheText_P1_5(t *testing.T) {
	everyText("a:", 6, func(x []marks.Char) {
		var l [][]marks.Char
		runs := marks.Runs(x)
		for i, r := range runs {
			if r.Text == "" || i > 0 && r.Q == runs[i-1].Q {
				t.Errorf("Runs(%s) = %v", told(x), runs)
			}
			l = append(l, marks.Of(r.Text, r.Q))
		}
		if !slices.Equal(marks.Join(l...), x) {
			t.Errorf("Runs(%s) = %v", told(x), runs)
		}
	})
}

func TestPartsAreTheText_P1_5(t *testing.T) {
	everyText("a:", 6, func(x []marks.Char) {
		var l [][]marks.Char
		for i, p := range marks.Part(x, ':') {
			if marks.Find(p, ':') >= 0 {
				t.Errorf("a part of %s is %s", told(x), told(p))
			}
			if i > 0 {
				l = append(l, marks.Of(":", false))
			}
			l = append(l, p)
		}
		if !slices.Equal(marks.Join(l...), x) {
			t.Errorf("Part(%s)", told(x))
		}
	})
}

func TestHardOfJoined_P1_5(t *testing.T) {
	everyText("a", 3, func(x []marks.Char) {
		everyText("a", 3, func(y []marks.Char) {
			someX, allX := marks.Hard(x)
			someY, allY := marks.Hard(y)
			some, all := marks.Hard(marks.Join(x, y))
			if some != (someX || someY) || all != (allX && allY) {
				t.Errorf("Hard(%s, %s) = %v, %v", told(x), told(y), some, all)
			}
		})
	})
}

// R2: what is handed in is not written into, nor is what stands behind its length; answers share no memory with it.
func TestAnswersAreNew_R2(t *testing.T) {
	whole := text(" a:b<c> rest")
	was := slices.Clone(whole)
	x := whole[:6]
	answers := map[string][][]marks.Char{
		"Join of one":  {marks.Join(x)},
		"Join of more": {marks.Join(x[:3], x[3:])},
		"Part":         marks.Part(x, ':'),
		"Part of none": marks.Part(x, 'z'),
		"Strip":        {marks.Strip(x, " ")},
		"Strip none":   {marks.Strip(x, "")},
	}
	for name, l := range answers {
		for _, p := range l {
			for i := range p[:cap(p)] {
				p[:cap(p)][i] = marks.Char{B: '#'}
			}
		}
		if !slices.Equal(whole, was) {
			t.Fatalf("%s: an answer shares memory with its argument", name)
		}
	}
}

func TestPartsShareNothing_R2(t *testing.T) {
	l := marks.Part(text("ab:cd:ef"), ':')
	for i := range l {
		_ = append(l[i][:0], marks.Of("######", true)...)
		for j := range l {
			if j > i && !slices.Equal(l[j], text([]string{"ab", "cd", "ef"}[j])) {
				t.Fatalf("part %d reaches into part %d", i, j)
			}
		}
	}
}

// A text of a megabyte, in many parts and with a long set, is done in a breath.
func TestLongTexts_Limits(t *testing.T) {
	n := 1 << 20
	long := marks.Of(strings.Repeat(":", n), false)
	if got := len(marks.Part(long, ':')); got != n+1 {
		t.Error("Part", got)
	}
	if got := marks.Strip(long, strings.Repeat("a", n)+":"); len(got) != 0 {
		t.Error("Strip", len(got))
	}
	if got, e := marks.Read(strings.Repeat("'a'b", n)); len(got) != 2*n || e != api.OK {
		t.Error("Read", len(got), e)
	}
}
