package globs_test

import (
	"slices"
	"strconv"
	"strings"
	"testing"

	"whelk/api"
	"whelk/globs"
	"whelk/marks"
)

// text is a marked text: quoted bytes stand between < and >.
func text(s string) []marks.Char {
	var out []marks.Char
	quoted := false
	for _, b := range []byte(s) {
		if b == '<' || b == '>' {
			quoted = b == '<'
			continue
		}
		out = append(out, marks.Char{B: b, Q: quoted})
	}
	return out
}

// pattern is the items of a text that is no pattern of paths.
func pattern(s string) []globs.Item { return globs.Compile(text(s), false) }

// told is items in a line: 'b' is One, ? Any, * Star, [..] a Group with its ranges by their ends.
func told(p []globs.Item) string {
	var l []string
	for _, it := range p {
		switch {
		case it.Kind == globs.One && !it.Not && it.Ranges == nil:
			l = append(l, strconv.QuoteToASCII(string([]byte{it.B})))
		case it.Kind == globs.Any && it.B == 0 && !it.Not && it.Ranges == nil:
			l = append(l, "?")
		case it.Kind == globs.Star && it.B == 0 && !it.Not && it.Ranges == nil:
			l = append(l, "*")
		case it.Kind == globs.Group && it.B == 0:
			l = append(l, groupTold(it))
		default:
			l = append(l, "no item")
		}
	}
	return strings.Join(l, " ")
}

func groupTold(it globs.Item) string {
	s := "["
	if it.Not {
		s = "[!"
	}
	for i, r := range it.Ranges {
		if i > 0 {
			s += ","
		}
		s += strconv.Itoa(int(r[0])) + "-" + strconv.Itoa(int(r[1]))
	}
	return s + "]"
}

// everyText calls f with each text of up to most parts.
func everyText(parts []string, most int, f func(string)) {
	var grow func(s string, n int)
	grow = func(s string, n int) {
		f(s)
		if n < most {
			for _, p := range parts {
				grow(s+p, n+1)
			}
		}
	}
	grow("", 0)
}

func bytesOf(s string) []string { return strings.Split(s, "") }

func TestCompile_P2_1(t *testing.T) {
	for s, want := range map[string]string{
		"":           "",
		"a":          `"a"`,
		"<*?[\\>":    `"*" "?" "[" "\\"`,
		"?*":         "? *",
		"***":        "*",
		"*<*>*":      `* "*" *`,
		"*?**a*":     `* ? * "a" *`,
		`\*\?\[a\]`:  `"*" "?" "[" "a" "]"`,
		`a\`:         `"a" "\\"`,
		`\`:          `"\\"`,
		`\\`:         `"\\"`,
		`\\\`:        `"\\" "\\"`,
		`\<*>`:       `"*"`,
		`<\>*`:       `"\\" *`,
		`*\**`:       `* "*" *`,
		"]":          `"]"`,
		"\x00\xff\n": `"\x00" "\xff" "\n"`,
	} {
		if got := told(pattern(s)); got != want {
			t.Errorf("%q: %s", s, got)
		}
	}
}

func TestCompileGroups_P2_1(t *testing.T) {
	for s, want := range map[string]string{
		"[a]":         "[97-97]",
		"[ab]c":       `[97-97,98-98] "c"`,
		"[aa]":        "[97-97,97-97]",
		"[!a]":        "[!97-97]",
		"[<!>a]":      "[33-33,97-97]",
		"[a!]":        "[97-97,33-33]",
		"[!!]":        "[!33-33]",
		"[a-c]":       "[97-99]",
		"[a-a]":       "[97-97]",
		"[c-a]":       "[]",
		"[!c-a]":      "[!]",
		"[c-ax]":      "[120-120]",
		"[<a>-<c>]":   "[97-99]",
		"[a<->c]":     "[97-97,45-45,99-99]",
		"[a-]":        "[97-97,45-45]",
		"[-a]":        "[45-45,97-97]",
		"[--a]":       "[45-97]",
		"[---]":       "[45-45]",
		"[a-c-e]":     "[97-99,45-45,101-101]",
		"[a-<]>]":     "[]",
		"[A-<]>]":     "[65-93]",
		"[]a]":        "[93-93,97-97]",
		"[!]a]":       "[!93-93,97-97]",
		"[]-a]":       "[93-97]",
		"[]-]":        "[93-93,45-45]",
		"[<]>]":       "[93-93]",
		"[a<]>b]":     "[97-97,93-93,98-98]",
		"[a]]":        `[97-97] "]"`,
		`[\]]`:        `[92-92] "]"`,
		`[a\]`:        "[97-97,92-92]",
		"[*?]":        "[42-42,63-63]",
		"[[]":         "[91-91]",
		"[[-a]":       "[91-97]",
		"[+-[:x]":     "[43-91,58-58,120-120]",
		"[a/b]":       "[97-97,47-47,98-98]",
		"[\x00-\xff]": "[0-255]",
	} {
		if got := told(pattern(s)); got != want {
			t.Errorf("%q: %s", s, got)
		}
	}
}

func TestCompileNoGroups_P2_1(t *testing.T) {
	for s, want := range map[string]string{
		"[":        `"["`,
		"[a":       `"[" "a"`,
		"[]":       `"[" "]"`,
		"[!]":      `"[" "!" "]"`,
		"[!":       `"[" "!"`,
		"[]a":      `"[" "]" "a"`,
		"[a<]>":    `"[" "a" "]"`,
		"[a-":      `"[" "a" "-"`,
		"<[>a]":    `"[" "a" "]"`,
		`\[a]`:     `"[" "a" "]"`,
		"[*":       `"[" *`,
		"[[a]":     "[91-91,97-97]",
		"[]*":      `"[" "]" *`,
		`[\*`:      `"[" "*"`,
		"[[":       `"[" "["`,
		"[[[]":     "[91-91,91-91]",
		"[]][a]":   `[93-93] [97-97]`,
		"[][a]":    "[93-93,91-91,97-97]",
		"[][":      `"[" "]" "["`,
		"[a][!":    `[97-97] "[" "!"`,
		"[][!]":    "[93-93,91-91,33-33]",
		"[<a]b[>]": "[97-97,93-93,98-98,91-91]",
	} {
		if got := told(pattern(s)); got != want {
			t.Errorf("%q: %s", s, got)
		}
	}
}

// classes are the bytes of the chapter's table.
var classes = map[string]string{
	"alnum": "48-57,65-90,97-122", "alpha": "65-90,97-122",
	"blank": "9-9,32-32", "space": "9-13,32-32",
	"cntrl": "0-31,127-127", "print": "32-126", "graph": "33-126",
	"digit": "48-57", "xdigit": "48-57,65-70,97-102",
	"lower": "97-122", "upper": "65-90",
	"punct": "33-47,58-64,91-96,123-126",
}

func TestCompileClasses_P2_1(t *testing.T) {
	for name, l := range classes {
		for s, want := range map[string]string{
			"[[:" + name + ":]]":      "[" + l + "]",
			"[![:" + name + ":]x]":    "[!" + l + ",120-120]",
			"[x[:" + name + ":]-z]":   "[120-120," + l + ",45-45,122-122]",
			"[][:" + name + ":]]]":    "[93-93," + l + `] "]"`,
			"[[:" + name + ":]-]":     "[" + l + ",45-45]",
			"[<[>:" + name + ":]":     "[91-91,58-58," + letters(name) + ",58-58]",
			"[[<:>" + name + ":]":     "[91-91,58-58," + letters(name) + ",58-58]",
			"[[:<" + name + ">:]":     "[91-91,58-58," + letters(name) + ",58-58]",
			"[[:" + name + "<:>]":     "[91-91,58-58," + letters(name) + ",58-58]",
			"[[:" + name + ":<]>]":    "[91-91,58-58," + letters(name) + ",58-58,93-93]",
			"[[:" + name + ":]":       `"[" [58-58,` + letters(name) + ",58-58]",
			"[[:" + name + ":][a]":    `[` + l + ",91-91,97-97]",
			"[[:" + name + "]":        "[91-91,58-58," + letters(name) + "]",
			"[:" + name + ":]":        "[58-58," + letters(name) + ",58-58]",
			"[[:" + name + ":]" + "a": `"[" [58-58,` + letters(name) + `,58-58] "a"`,
		} {
			if got := told(pattern(s)); got != want {
				t.Errorf("%q: %s", s, got)
			}
		}
	}
}

func letters(name string) string {
	var l []string
	for _, b := range []byte(name) {
		l = append(l, strconv.Itoa(int(b))+"-"+strconv.Itoa(int(b)))
	}
	return strings.Join(l, ",")
}

func TestCompileNoClasses_P2_1(t *testing.T) {
	for s, want := range map[string]string{
		"[[:no:]]":     `"[" [58-58,110-110,111-111,58-58] "]"`,
		"[a[:no:]]":    `"[" "a" [58-58,110-110,111-111,58-58] "]"`,
		"[![:no:]]":    `"[" "!" [58-58,110-110,111-111,58-58] "]"`,
		"[x-z[:no:]]":  `"[" "x" "-" "z" [58-58,110-110,111-111,58-58] "]"`,
		"[[:alph:]]":   `"[" [58-58,97-97,108-108,112-112,104-104,58-58] "]"`,
		"[[::]]":       `[91-91,58-58,58-58] "]"`,
		"[[:]]":        `[91-91,58-58] "]"`,
		"[[:A:]]":      `[91-91,58-58,65-65,58-58] "]"`,
		"[[:a0:]]":     `[91-91,58-58,97-97,48-48,58-58] "]"`,
		"[[:n<o>:]]":   `[91-91,58-58,110-110,111-111,58-58] "]"`,
		"[+-[:no:]]":   `[43-91,58-58,110-110,111-111,58-58] "]"`,
		"[[:no]x]":     `[91-91,58-58,110-110,111-111] "x" "]"`,
		"[[:no:a]":     "[91-91,58-58,110-110,111-111,58-58,97-97]",
		"[[:digit:x]]": `[91-91,58-58,` + letters("digit") + `,58-58,120-120] "]"`,
		"[[.a.]]":      `[91-91,46-46,97-97,46-46] "]"`,
		"[[=a=]]":      `[91-91,61-61,97-97,61-61] "]"`,
	} {
		if got := told(pattern(s)); got != want {
			t.Errorf("%q: %s", s, got)
		}
	}
}

func TestCompilePath_P2_1(t *testing.T) {
	for s, want := range map[string]string{
		"a/*?":             `"a" "/" * ?`,
		"[ab]":             "[97-97,98-98]",
		"[a/b]":            `"[" "a" "/" "b" "]"`,
		"[a</>b]":          `"[" "a" "/" "b" "]"`,
		"[/]":              `"[" "/" "]"`,
		"[!/]":             `"[" "!" "/" "]"`,
		"[]/]":             `"[" "]" "/" "]"`,
		"[+-/]":            `"[" "+" "-" "/" "]"`,
		"[/-a]":            `"[" "/" "-" "a" "]"`,
		"[a-/]":            `"[" "a" "-" "/" "]"`,
		"[.-0]":            "[46-48]",
		"[[:punct:]]":      "[33-47,58-64,91-96,123-126]",
		"[[:punct:]/]":     `"[" [58-58,` + letters("punct") + `,58-58] "/" "]"`,
		"[a]/[b]":          `[97-97] "/" [98-98]`,
		"[a/[b]":           `"[" "a" "/" [98-98]`,
		"[a]/]":            `[97-97] "/" "]"`,
		"[/[a]":            `"[" "/" [97-97]`,
		"[[:no:]/[:no:]/]": `"[" [58-58,110-110,111-111,58-58] "/" [58-58,110-110,111-111,58-58] "/" "]"`,
	} {
		if got := told(globs.Compile(text(s), true)); got != want {
			t.Errorf("%q: %s", s, got)
		}
	}
}

// compiled is a second way to read patterns: the groups' ends are asked anew at each [.
func compiled(t []marks.Char, path bool) string {
	bare := func(t []marks.Char, s string) bool {
		return len(t) >= len(s) && slices.Equal(t[:len(s)], marks.Of(s, false))
	}
	var l []string
	for len(t) > 0 {
		n := 1
		c := t[0]
		one := strconv.QuoteToASCII(string([]byte{c.B}))
		switch {
		case bare(t, "?"):
			one = "?"
		case bare(t, "*"):
			one = "*"
		case bare(t, `\`) && len(t) > 1:
			one, n = strconv.QuoteToASCII(string([]byte{t[1].B})), 2
		case bare(t, "["):
			if s, rest := groupOf(t[1:], path, bare); s != "" {
				one, n = s, len(t)-len(rest)
			}
		}
		t = t[n:]
		if one != "*" || len(l) == 0 || l[len(l)-1] != "*" {
			l = append(l, one)
		}
	}
	return strings.Join(l, " ")
}

func groupOf(t []marks.Char, path bool, bare func([]marks.Char, string) bool) (string, []marks.Char) {
	out := "["
	if bare(t, "!") {
		out, t = "[!", t[1:]
	}
	var l []string
	for n := 0; n == 0 || !bare(t, "]"); n++ {
		if len(t) == 0 {
			return "", nil
		}
		size := 0
		for name, bytes := range classes {
			if bare(t, "[:"+name+":]") {
				l, size = append(l, bytes), len(name)+4
			}
		}
		if size == 0 && bare(t, "[:") {
			n := 2
			for n < len(t) && bare(t[n:], string([]byte{t[n].B})) && strings.IndexByte("abcdefghijklmnopqrstuvwxyz", t[n].B) >= 0 {
				n++
			}
			if n > 2 && bare(t[n:], ":]") {
				return "", nil
			}
		}
		if size == 0 {
			size = 1
			if len(t) > 2 && bare(t[1:], "-") && !bare(t[2:], "]") {
				size = 3
			}
			if a, b := t[0].B, t[size-1].B; path && (a == '/' || b == '/') {
				return "", nil
			} else if a <= b {
				l = append(l, strconv.Itoa(int(a))+"-"+strconv.Itoa(int(b)))
			}
		}
		t = t[size:]
	}
	return out + strings.Join(l, ",") + "]", t[1:]
}

func TestCompileAll_P2_1(t *testing.T) {
	check := func(s string) {
		for _, path := range []bool{false, true} {
			if got, want := told(globs.Compile(text(s), path)), compiled(text(s), path); got != want {
				t.Fatalf("%q, %v: %s, not %s", s, path, got, want)
			}
		}
	}
	everyText([]string{"[", "]", "!", "-", "b", "<]>", "/", "[:digit:]", "[:no:]"}, 5, check)
	everyText([]string{"[", "]", ":", "a", `\`, "*", "?", "<[>", "<->"}, 5, check)
	everyText([]string{"[", "]", "a", "-", "[:digit:]"}, 6, check)
}

func TestSpecial_P2_1(t *testing.T) {
	for s, want := range map[string]bool{
		"": false, "ab": false, "a*": true, "?": true, "[a]": true, "[a": false, "<*>": false, `\*`: false,
		"[]": false, "ab?c": true, "]": false,
	} {
		if got := globs.Special(pattern(s)); got != want {
			t.Errorf("%q: %v", s, got)
		}
	}
	for kind, want := range map[int]bool{globs.One: false, globs.Any: true, globs.Star: true, globs.Group: true, 0: true, 5: true, -1: true} {
		if got := globs.Special([]globs.Item{{Kind: globs.One}, {Kind: kind}}); got != want {
			t.Errorf("kind %d: %v", kind, got)
		}
	}
}

func TestMatch_P2_2(t *testing.T) {
	for _, x := range []struct{ p, fits, not string }{
		{"a*c", "ac abbc acc a/c a.c", "ab a c bac acb"},
		{"[!a-c]?", "dx -a xx", "ax bx d dxx"},
		{"[]a]", "] a", "b ]a"},
		{"[[:digit:]x]", "7 x 0 9", "d : ["},
		{"[a", "[a", "a [ [ab"},
		{"[[:no:]]", "[n] [o] [:]", "[[:no:]] n [x]"},
		{"*", ".ab a/b a *", ""},
		{"?", "a . / *", "ab"},
		{"*a*b*", "ab xaxbx aab abab", "ba a b xb"},
		{"a*a", "aa aaa aba", "a ab"},
		{"*ab", "ab aab abab", "aba b"},
		{"ab*", "ab aba abb", "aab a"},
		{"??*", "ab abc", "a"},
		{"<*>", "*", "a **"},
		{`\*a`, "*a", "aa a"},
		{"[c-a]", "", "a b c -"},
		{"[!c-a]", "a b -", "ab"},
		{"*aab*", "aab aaab aaaabb", "aba aa ab"},
		{"*[ab][!a]c", "abc bbcxbbc", "aac abcx"},
	} {
		for _, s := range strings.Fields(x.fits) {
			if !globs.Match(pattern(x.p), s) {
				t.Errorf("%q does not fit %q", x.p, s)
			}
		}
		for _, s := range strings.Fields(x.not) {
			if globs.Match(pattern(x.p), s) {
				t.Errorf("%q fits %q", x.p, s)
			}
		}
	}
	for p, want := range map[string]bool{"": true, "*": true, "?": false, "a": false, "*a": false, "[!a]": false} {
		if globs.Match(pattern(p), "") != want {
			t.Errorf("%q, of no bytes", p)
		}
	}
}

// fitsByWords is what the chapter says of Match and Path, each item by itself.
func fitsByWords(p []globs.Item, s string, at int, path bool) bool {
	if len(p) == 0 {
		return at == len(s)
	}
	hidden := func(i int) bool { return path && (s[i] == '/' || s[i] == '.' && (i == 0 || s[i-1] == '/')) }
	if p[0].Kind == globs.Star {
		for to := at; ; to++ {
			if fitsByWords(p[1:], s, to, path) {
				return true
			}
			if to == len(s) || hidden(to) {
				return false
			}
		}
	}
	if at == len(s) {
		return false
	}
	one := false
	switch p[0].Kind {
	case globs.One:
		one = p[0].B == s[at]
	case globs.Any:
		one = !hidden(at)
	case globs.Group:
		in := false
		for _, r := range p[0].Ranges {
			in = in || r[0] <= s[at] && s[at] <= r[1]
		}
		one = in != p[0].Not && !hidden(at)
	}
	return one && fitsByWords(p[1:], s, at+1, path)
}

// everyPattern calls f with each pattern of up to most of these items.
func everyPattern(most int, f func([]globs.Item)) {
	items := []globs.Item{
		{Kind: globs.One, B: 'a'}, {Kind: globs.One, B: '.'}, {Kind: globs.One, B: '/'},
		{Kind: globs.Any}, {Kind: globs.Star},
		{Kind: globs.Group, Ranges: [][2]byte{{'.', 'a'}}}, {Kind: globs.Group, Not: true, Ranges: [][2]byte{{'b', 'c'}, {'.', '.'}}},
	}
	var grow func(p []globs.Item)
	grow = func(p []globs.Item) {
		f(p)
		if len(p) < most {
			for _, it := range items {
				grow(append(slices.Clone(p), it))
			}
		}
	}
	grow(nil)
}

func everyBytes(alphabet string, most int) []string {
	var out []string
	everyText(bytesOf(alphabet), most, func(s string) { out = append(out, s) })
	return out
}

func TestMatchAll_P2_2(t *testing.T) {
	all := everyBytes("a.b", 4)
	everyPattern(4, func(p []globs.Item) {
		for _, s := range all {
			if got := globs.Match(p, s); got != fitsByWords(p, s, 0, false) {
				t.Fatalf("%s, %q: %v", told(p), s, got)
			}
		}
	})
}

func TestPath_P2_2(t *testing.T) {
	for _, x := range []struct {
		p, s string
		want bool
	}{
		{"*", "ab", true}, {"*", ".ab", false}, {"*", "a/b", false}, {"*", "a.b", true}, {"*", "", true},
		{"*/*", "a/b", true}, {"*/*", "a/.b", false}, {"*/.*", "a/.b", true}, {"*/*", "/", true}, {"*/*", "a/b/c", false},
		{"?", ".", false}, {"?", "/", false}, {"a?b", "a/b", false}, {"a?b", "a.b", true}, {"/?a", "/.a", false},
		{"[.]a", ".a", false}, {"[!x]a", ".a", false}, {"b[.]a", "b.a", true}, {"a[.-0]b", "a/b", false}, {"a[!x]b", "a/b", false},
		{".*", ".ab", true}, {"<.>*", ".ab", true}, {`\.*`, ".", true}, {".?", "..", true}, {".*", "ab", false}, {".*", "..", true},
		{"*.a", ".a", true}, {"*.a", "b.a", true}, {"*.a", "..a", false}, {"*a", ".a", false},
		{"a/b", "a/b", true}, {"a//b", "a//b", true}, {"a/b", "a//b", false}, {"a/*/b", "a//b", true}, {"a/", "a", false}, {"a", "a/", false},
		{"*a*/b", "xaya/b", true}, {"*/b*", "a/b", true}, {"", "", true}, {"", "/", false}, {"/", "/", true}, {"*/", "a/", true},
		{"[a]/[b]", "a/b", true}, {"[!.]", ".", false},
	} {
		if got := globs.Path(globs.Compile(text(x.p), true), x.s); got != x.want {
			t.Errorf("%q, %q: %v", x.p, x.s, got)
		}
	}
}

func TestPathAll_P2_2(t *testing.T) {
	all := everyBytes("a./", 5)
	everyPattern(4, func(p []globs.Item) {
		for _, s := range all {
			if got := globs.Path(p, s); got != fitsByWords(p, s, 0, true) {
				t.Fatalf("%s, %q: %v", told(p), s, got)
			}
		}
	})
}

// Items of a caller's own: kinds that are none, Stars side by side, ranges that are empty.
func TestOwnItems_P2_2(t *testing.T) {
	star := globs.Item{Kind: globs.Star, B: '/', Not: true}
	for _, x := range []struct {
		p    []globs.Item
		s    string
		want bool
	}{
		{[]globs.Item{{Kind: 0}}, "", false}, {[]globs.Item{{Kind: 0}}, "\x00", false}, {[]globs.Item{{Kind: 5, B: 'a'}}, "a", false},
		{[]globs.Item{{Kind: -1}, star}, "a", false}, {[]globs.Item{star, {Kind: 7}}, "a", false}, {[]globs.Item{{Kind: 0, Not: true}}, "a", false},
		{[]globs.Item{star, star, star}, "", true}, {[]globs.Item{star, star, {Kind: globs.One, B: 'a'}, star, star}, "bab", true},
		{[]globs.Item{{Kind: globs.Group}}, "a", false}, {[]globs.Item{{Kind: globs.Group, Not: true}}, "a", true},
		{[]globs.Item{{Kind: globs.Group, Ranges: [][2]byte{{'c', 'a'}}}}, "b", false},
		{[]globs.Item{{Kind: globs.Group, Not: true, Ranges: [][2]byte{{'c', 'a'}}}}, "b", true},
		{[]globs.Item{{Kind: globs.Group, Ranges: [][2]byte{{0, 255}}}}, "\xff", true},
		{[]globs.Item{{Kind: globs.Group, Ranges: [][2]byte{{0, 0}, {255, 255}}}}, "\x00", true},
		{[]globs.Item{{Kind: globs.One, B: 'a', Not: true, Ranges: [][2]byte{{'b', 'b'}}}}, "a", true},
	} {
		if got := globs.Match(x.p, x.s); got != x.want {
			t.Errorf("Match(%v, %q) = %v", x.p, x.s, got)
		}
		if got := globs.Path(x.p, x.s); got != x.want {
			t.Errorf("Path(%v, %q) = %v", x.p, x.s, got)
		}
	}
	if !globs.Path([]globs.Item{star, star, {Kind: globs.One, B: '.'}}, ".") {
		t.Error("Stars ahead of a .")
	}
}

func TestHeadTail_P2_3(t *testing.T) {
	for _, x := range []struct {
		p, s                     string
		head, heads, tail, tails int
	}{
		{"", "", 0, 0, 0, 0}, {"", "ab", 0, 0, 0, 0}, {"*", "", 0, 0, 0, 0}, {"*", "abc", 0, 3, 0, 3},
		{"a", "aba", 1, 1, 1, 1}, {"b", "aba", -1, -1, -1, -1}, {"a", "", -1, -1, -1, -1}, {"?", "ab", 1, 1, 1, 1},
		{"*/", "a/b/c", 2, 4, -1, -1}, {"/*", "a/b/c", -1, -1, 2, 4}, {"*.*", "a.b.c", 2, 5, 2, 5},
		{"a*b", "abab", 2, 4, 2, 4}, {"a*a", "aaab", 2, 3, -1, -1}, {"a*a", "baaa", -1, -1, 2, 3},
		{"*ab*b", "abaabb", 5, 6, 3, 6}, {"aaa", "aa", -1, -1, -1, -1}, {"[!a]*", "ba", 1, 2, 2, 2},
		{"abc", "ab", -1, -1, -1, -1}, {"bc", "abc", -1, -1, 2, 2}, {"ab", "abc", 2, 2, -1, -1},
	} {
		p := pattern(x.p)
		if got := globs.Head(p, x.s, false); got != x.head {
			t.Errorf("Head(%q, %q, false) = %d", x.p, x.s, got)
		}
		if got := globs.Head(p, x.s, true); got != x.heads {
			t.Errorf("Head(%q, %q, true) = %d", x.p, x.s, got)
		}
		if got := globs.Tail(p, x.s, false); got != x.tail {
			t.Errorf("Tail(%q, %q, false) = %d", x.p, x.s, got)
		}
		if got := globs.Tail(p, x.s, true); got != x.tails {
			t.Errorf("Tail(%q, %q, true) = %d", x.p, x.s, got)
		}
	}
}

func TestHeadTailAll_P2_3(t *testing.T) {
	all := everyBytes("a.b", 4)
	everyPattern(4, func(p []globs.Item) {
		for _, s := range all {
			head, heads, tail, tails := -1, -1, -1, -1
			for n := range len(s) + 1 {
				if fitsByWords(p, s[:n], 0, false) {
					heads = n
					if head < 0 {
						head = n
					}
				}
				if fitsByWords(p, s[len(s)-n:], 0, false) {
					tails = n
					if tail < 0 {
						tail = n
					}
				}
			}
			got := []int{globs.Head(p, s, false), globs.Head(p, s, true), globs.Tail(p, s, false), globs.Tail(p, s, true)}
			if !slices.Equal(got, []int{head, heads, tail, tails}) {
				t.Fatalf("%s, %q: %v", told(p), s, got)
			}
		}
	})
}

func TestAll_P2_4(t *testing.T) {
	for _, x := range []struct {
		p, alphabet string
		most        int
		want        []string
	}{
		{"*", "ab", 2, []string{"", "a", "b", "aa", "ab", "ba", "bb"}},
		{"*", "ba", 2, []string{"", "b", "a", "bb", "ba", "ab", "aa"}},
		{"*", "ba", 0, []string{""}}, {"?", "ba", 0, nil}, {"*", "", 0, []string{""}}, {"*", "", 9, []string{""}}, {"?", "", 9, nil},
		{"a*", "ab", 3, []string{"a", "aa", "ab", "aaa", "aab", "aba", "abb"}},
		{"*b", "ab", 3, []string{"b", "ab", "bb", "aab", "abb", "bab", "bbb"}},
		{"c", "ab", 3, nil}, {"?/?", "/.", 3, []string{"///", "//.", ".//", "./."}},
		{"??", "\x00\xff", 2, []string{"\x00\x00", "\x00\xff", "\xff\x00", "\xff\xff"}},
	} {
		got, e := globs.All(pattern(x.p), x.alphabet, x.most)
		if !slices.Equal(got, x.want) || e != api.OK {
			t.Errorf("All(%q, %q, %d) = %q, %v", x.p, x.alphabet, x.most, got, e)
		}
	}
}

func TestAllErrors_P2_4(t *testing.T) {
	const big = int(^uint(0) >> 1)
	var bytes [256]byte
	for i := range bytes {
		bytes[i] = byte(i)
	}
	every := string(bytes[:])
	for _, x := range []struct {
		alphabet string
		most     int
		n        int
		want     api.Errno
	}{
		{"ab", -1, 0, api.ErrArg}, {"", -1, 0, api.ErrArg}, {"ab", -big - 1, 0, api.ErrArg},
		{"aa", 1, 0, api.ErrArg}, {"aba", 0, 0, api.ErrArg}, {every + "a", 1, 0, api.ErrArg},
		{"aa", 5000, 0, api.ErrArg}, {"aa", -1, 0, api.ErrArg},
		{"a", 4095, 4096, api.OK}, {"a", 4096, 0, api.ErrMany}, {"a", big, 0, api.ErrMany},
		{"ab", 11, 4095, api.OK}, {"ab", 12, 0, api.ErrMany}, {"ab", big, 0, api.ErrMany},
		{every[:63], 2, 1 + 63 + 63*63, api.OK}, {every[:64], 2, 0, api.ErrMany},
		{every[:15], 3, 3616, api.OK}, {every[:16], 3, 0, api.ErrMany},
		{every, 1, 257, api.OK}, {every, 2, 0, api.ErrMany}, {every, big, 0, api.ErrMany}, {every, 0, 1, api.OK},
		{"", big, 1, api.OK},
	} {
		got, e := globs.All(pattern("*"), x.alphabet, x.most)
		if len(got) != x.n || e != x.want {
			t.Errorf("%d bytes, %d: %d texts, %v", len(x.alphabet), x.most, len(got), e)
		}
		if _, e := globs.All(nil, x.alphabet, x.most); e != x.want {
			t.Errorf("of no items: %d bytes, %d: %v", len(x.alphabet), x.most, e)
		}
	}
}

func TestAllIsMatch_P2_4(t *testing.T) {
	everyPattern(3, func(p []globs.Item) {
		got, e := globs.All(p, "/.a", 4)
		if e != api.OK {
			t.Fatal(e)
		}
		for _, s := range everyBytes("/.a", 4) {
			if slices.Contains(got, s) != globs.Match(p, s) {
				t.Fatalf("%s, %q", told(p), s)
			}
		}
	})
}

func TestQuotedFitsItself_P2_5(t *testing.T) {
	for _, path := range []bool{false, true} {
		for _, s := range everyBytes(`[]*?\!-./a`, 3) {
			p := globs.Compile(marks.Of(s, true), path)
			if !globs.Match(p, s) || !globs.Path(p, s) || globs.Special(p) {
				t.Fatalf("%q", s)
			}
			for _, other := range []string{"", "a", "b", s + "a", "a" + s, strings.Repeat("a", len(s))} {
				if other != s && globs.Match(p, other) {
					t.Fatalf("%q fits %q", s, other)
				}
			}
		}
	}
}

func TestTwoPatterns_P2_5(t *testing.T) {
	all := everyBytes("a.b", 4)
	everyPattern(2, func(p []globs.Item) {
		everyPattern(2, func(q []globs.Item) {
			for _, s := range all {
				cut := false
				for n := range len(s) + 1 {
					cut = cut || globs.Match(p, s[:n]) && globs.Match(q, s[n:])
				}
				if globs.Match(slices.Concat(p, q), s) != cut {
					t.Fatalf("%s, %s, %q", told(p), told(q), s)
				}
			}
		})
	})
}

func TestPathIsMatch_P2_5(t *testing.T) {
	all := everyBytes("a./", 4)
	everyPattern(3, func(p []globs.Item) {
		for _, s := range all {
			if globs.Path(p, s) && !globs.Match(p, s) {
				t.Fatalf("%s, %q", told(p), s)
			}
		}
	})
}

func TestNot_P2_5(t *testing.T) {
	groups := []string{"[a]", "[]]", "[a-z]", "[z-a]", "[\x00-\xff]", "[^]", "[[:alpha:]_]", "[-]", "[\xff\x80]", "[@A?/0]"}
	for name := range classes {
		groups = append(groups, "[[:"+name+":]]")
	}
	for _, g := range groups {
		p, q := pattern(g), pattern("[!"+g[1:])
		if len(p) != 1 || len(q) != 1 {
			t.Fatalf("%q: %s, %s", g, told(p), told(q))
		}
		for i := range 256 {
			if s := string([]byte{byte(i)}); globs.Match(p, s) == globs.Match(q, s) {
				t.Errorf("%q, %q", g, s)
			}
		}
	}
}

// R2: items' ranges are a caller's, each list by itself; patterns that are handed in are not written into.
func TestAnswersAreNew_R2(t *testing.T) {
	src := text("[[:alnum:]][[:alnum:]x][a]*[a-c]?")
	was := slices.Clone(src)
	p := globs.Compile(src, false)
	want := told(p)
	for i := range p {
		own := slices.Clone(p[i].Ranges)
		l := p[i].Ranges[:cap(p[i].Ranges)]
		for j := range l {
			l[j] = [2]byte{'#', '#'}
		}
		copy(l, own)
		if told(p) != want {
			t.Fatalf("item %d shares its ranges", i)
		}
		for j := range own {
			l[j] = [2]byte{'#', '#'}
		}
		if told(globs.Compile(src, false)) != want {
			t.Fatalf("item %d shares its ranges with what is told later", i)
		}
		copy(l, own)
	}
	if !slices.Equal(src, was) {
		t.Error("the text was written into")
	}
	globs.Tail(p[:2], "ab", true)
	globs.Head(p[:2], "ab", true)
	globs.Path(p[:2], "ab")
	if told(p) != want {
		t.Error("the pattern was written into")
	}
}

// Long texts and patterns are done in a breath.
func TestLong_Limits(t *testing.T) {
	n := 1 << 17
	for _, s := range []string{"[", "[]", "[!", "[[:", "[:no:]", "[[:no:]", "[a-", "[[:digit:]", `[\`, "[/"} {
		for _, path := range []bool{false, true} {
			globs.Compile(marks.Of(strings.Repeat(s, n/len(s)), false), path)
		}
	}
	long := strings.Repeat("a", n)
	if p := globs.Compile(marks.Of(long, true), false); !globs.Match(p, long) || globs.Match(p, long+"a") {
		t.Error("a long text")
	}
	p := pattern(strings.Repeat("*a", 1000) + "b")
	if globs.Match(p, long) || globs.Head(p, long, true) >= 0 || globs.Tail(p, long, false) >= 0 || globs.Path(p, long) {
		t.Error("many stars")
	}
	p = pattern("*[" + strings.Repeat("xyz", n) + "]*")
	if globs.Match(p, long) || globs.Head(p, long+"x", false) != n+1 {
		t.Error("a long group")
	}
	p = pattern(strings.Repeat("*/", n))
	if s := strings.Repeat("a/", n); !globs.Path(p, s) || globs.Path(p, s+"a") {
		t.Error("a long path")
	}
}
