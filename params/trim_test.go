package params_test

import (
	"math"
	"slices"
	"strings"
	"testing"

	"whelk/api"
	"whelk/globs"
	"whelk/marks"
	"whelk/params"
)

// trims are the ops that take something away.
var trims = []int{api.Head, api.Heads, api.Tail, api.Tails}

// text is a marked text: quoted bytes stand between < and >.
func text(s string) []marks.Char {
	var l [][]marks.Char
	for i, part := range strings.Split(strings.ReplaceAll(s, ">", "<"), "<") {
		l = append(l, marks.Of(part, i%2 == 1))
	}
	return marks.Join(l...)
}

// everyText is all texts of up to most parts.
func everyText(parts []string, most int) []string {
	out := []string{""}
	for row := out; most > 0; most-- {
		var next []string
		for _, s := range row {
			for _, p := range parts {
				next = append(next, s+p)
			}
		}
		out = append(out, next...)
		row = next
	}
	return out
}

// trimmed wants that Trim has no error, and is what it leaves.
func trimmed(t *testing.T, op int, value string, pattern []marks.Char) string {
	t.Helper()
	got, e := params.Trim(op, value, pattern)
	if e != api.OK {
		t.Fatalf("op %d, %.50q, %v: %v", op, value, pattern, e)
	}
	return got
}

// left is what each op leaves, told by Match of each beginning and end: the last one that fits stands.
func left(value string, pattern []marks.Char) map[int]string {
	p := globs.Compile(pattern, false)
	out := map[int]string{}
	for _, op := range trims {
		out[op] = value
	}
	for n := len(value); n >= 0; n-- {
		if globs.Match(p, value[:n]) {
			out[api.Head] = value[n:]
		}
		if globs.Match(p, value[len(value)-n:]) {
			out[api.Tail] = value[:len(value)-n]
		}
	}
	for n := range len(value) + 1 {
		if globs.Match(p, value[:n]) {
			out[api.Heads] = value[n:]
		}
		if globs.Match(p, value[len(value)-n:]) {
			out[api.Tails] = value[:len(value)-n]
		}
	}
	return out
}

func TestTrim_P15_2(t *testing.T) {
	for _, x := range []struct{ pattern, value, head, heads, tail, tails string }{
		{"", "", "", "", "", ""}, {"", "ab", "ab", "ab", "ab", "ab"}, {"a", "", "", "", "", ""}, {"*", "", "", "", "", ""}, {"?", "", "", "", "", ""},
		{"*", "ab", "ab", "", "ab", ""}, {"?", "ab", "b", "b", "a", "a"}, {"??*", "abcd", "cd", "", "ab", ""}, {"?*?", "abcd", "cd", "", "ab", ""},
		{"*/", "a/b/c", "b/c", "c", "a/b/c", "a/b/c"}, {"/*", "a/b/c", "a/b/c", "a/b/c", "a/b", "a"}, {"*/*", "a/b/c", "b/c", "", "a/b", ""},
		{"a", "aba", "ba", "ba", "ab", "ab"}, {"b", "aba", "aba", "aba", "aba", "aba"}, {"aba", "aba", "", "", "", ""}, {"abab", "aba", "aba", "aba", "aba", "aba"},
		{"a*b", "abxab", "xab", "", "abx", ""}, {"a*", "aba", "ba", "", "ab", ""}, {"*a", "aba", "ba", "", "ab", ""},
		{"*.*", "a.b.c", "b.c", "", "a.b", ""}, {"*[.]", "a.b.c", "b.c", "c", "a.b.c", "a.b.c"}, {"[!a-c]*", "axbx", "axbx", "axbx", "axb", "a"},
		{"[[:digit:]]*", "12ab", "2ab", "", "1", ""}, {"*[[:digit:]]", "ab12", "2", "", "ab1", ""},
		// Quoted bytes, and one behind a \, are themselves.
		{"<*>", "*a*", "a*", "a*", "*a", "*a"}, {"<*>", "aba", "aba", "aba", "aba", "aba"}, {`\*`, "*a*", "a*", "a*", "*a", "*a"}, {"*<*>", "a*b*c", "b*c", "c", "a*b*c", "a*b*c"},
		{"<*>*", "a*b*c", "a*b*c", "a*b*c", "a*b", "a"}, {"<[a]>", "[a]a", "a", "a", "[a]a", "[a]a"}, {"[a]", "[a]a", "[a]a", "[a]a", "[a]", "[a]"}, {"[a", "[ax[a", "x[a", "x[a", "[ax", "[ax"},
		{`\`, `\a\`, `a\`, `a\`, `\a`, `\a`}, {`<\>`, `\a\`, `a\`, `a\`, `\a`, `\a`}, {"<?>", "a?", "a?", "a?", "a", "a"},
		// It is no path: / and . are bytes like others.
		{"*", "/a/", "/a/", "", "/a/", ""}, {"?", "/a/", "a/", "a/", "/a", "/a"}, {"*", ".a", ".a", "", ".a", ""}, {"?", ".a", "a", "a", ".", "."}, {"[/]", "/a/", "a/", "a/", "/a", "/a"}, {"[.-/]*", "/.a", ".a", "", "/", ""}, {"[!a]", ".a/", "a/", "a/", ".a", ".a"}, {"*a", "./.a", "", "", "./.", ""},
		// Bytes are told apart byte by byte.
		{"?", "\u00e9", "\xa9", "\xa9", "\xc3", "\xc3"}, {"\xc3*", "\u00e9\u00e9", "\xa9\u00e9", "", "\u00e9", ""}, {"\x00", "\x00\xff\x00", "\xff\x00", "\xff\x00", "\x00\xff", "\x00\xff"}, {"*\n", "a\nb\n", "b\n", "", "a\nb", ""},
		{" ", "  a  ", " a  ", " a  ", "  a ", "  a "},
	} {
		for i, want := range []string{x.head, x.heads, x.tail, x.tails} {
			if got := trimmed(t, trims[i], x.value, text(x.pattern)); got != want {
				t.Errorf("op %d, %q, %s: %q, not %q", trims[i], x.value, x.pattern, got, want)
			}
		}
	}
}

// parts are what patterns are made of: what is special in them, bare and quoted, and what is not.
var parts = []string{"a", "b", "*", "?", "[", "]", "!", "-", "/", `\`, "<*>", "<a>", "<]>"}

func TestTrimAll_P15_2(t *testing.T) {
	values := append(everyText([]string{"a", "*", "/", "]"}, 3), "a/a/", "aa*a", "]]aa", "b*b*b", "a]/*a]/*", "-a!b-")
	for _, s := range append(everyText(parts, 3), "[!a]*", "*[!a]", "[a/]*[!]]", "*[*-/]?", "a*a*", "*a*a", `*\*<*>`, "[[:punct:]]*", "*a/*a") {
		pattern := text(s)
		for _, v := range values {
			for op, want := range left(v, pattern) {
				if got := trimmed(t, op, v, pattern); got != want {
					t.Fatalf("op %d, %q, %s: %q, not %q", op, v, s, got, want)
				}
			}
		}
	}
}

// An op that takes nothing away is ErrArg, be the value too great or not.
func TestTrimErrors_P15_2(t *testing.T) {
	most, more := strings.Repeat("a", api.MaxText), strings.Repeat("a", api.MaxText+1)
	refuses := func(op int, value string, want api.Errno) {
		t.Helper()
		for _, s := range []string{"", "a", "*", "[", "<*>", more} {
			if got, e := params.Trim(op, value, text(s)); got != "" || e != want {
				t.Errorf("op %d, %d bytes, %.9q: %.9q, %v", op, len(value), s, got, e)
			}
		}
	}
	others := []int{math.MinInt, math.MaxInt, 1<<32 + api.Head, math.MinInt32, math.MaxInt32}
	for n := range api.Head {
		others = append(others, n)
	}
	for n := range 300 {
		others = append(others, -1-n, api.Tails+1+n)
	}
	for _, op := range others {
		for _, v := range []string{"", "a", most, more} {
			refuses(op, v, api.ErrArg)
		}
	}
	for _, op := range trims {
		for _, v := range []string{more, more + more, strings.Repeat("\x00", api.MaxText+1), strings.Repeat("a", 1<<20)} {
			refuses(op, v, api.ErrBig)
		}
	}
}

// A value may have 4096 bytes, and a pattern any number of them.
func TestTrimGreatest_P15_2(t *testing.T) {
	most := strings.Repeat("a", api.MaxText)
	for _, x := range []struct{ pattern, head, heads, tail, tails string }{
		{"a", most[1:], most[1:], most[1:], most[1:]}, {"*", most, "", most, ""}, {"a*a", most[2:], "", most[2:], ""}, {"b", most, most, most, most},
		{most, "", "", "", ""}, {most + "a", most, most, most, most}, {most + "*", "", "", "", ""},
		{strings.Repeat("*", 1<<16), most, "", most, ""}, {strings.Repeat("*a", 1000), most[1000:], "", most[1000:], ""}, {strings.Repeat("*a", 1000) + "b", most, most, most, most},
		{strings.Repeat("[!b]*", 4096), "", "", "", ""}, {strings.Repeat("[!b]*", 4097), most, most, most, most}, {"[" + strings.Repeat("b-c", 1<<16) + "a]", most[1:], most[1:], most[1:], most[1:]},
		{strings.Repeat("[", 1<<16), most, most, most, most},
	} {
		for i, want := range []string{x.head, x.heads, x.tail, x.tails} {
			if got := trimmed(t, trims[i], most, text(x.pattern)); got != want {
				t.Errorf("op %d, %.20s: %d bytes, not %d", trims[i], x.pattern, len(got), len(want))
			}
		}
	}
}

func TestTrimLeavesAPart_P15_4(t *testing.T) {
	values := everyText([]string{"a", "b", "/"}, 4)
	for _, s := range everyText(parts, 3) {
		pattern := text(s)
		for _, v := range values {
			head, heads := trimmed(t, api.Head, v, pattern), trimmed(t, api.Heads, v, pattern)
			tail, tails := trimmed(t, api.Tail, v, pattern), trimmed(t, api.Tails, v, pattern)
			if !strings.HasSuffix(v, head) || !strings.HasSuffix(head, heads) || !strings.HasPrefix(v, tail) || !strings.HasPrefix(tail, tails) {
				t.Fatalf("%q, %s: %q, %q, %q, %q", v, s, head, heads, tail, tails)
			}
		}
	}
}

func TestTrimWithoutSpecial_P15_4(t *testing.T) {
	special := []string{"a", "*", "?", "[", "]", `\`, "!", "/", "."}
	values := everyText(special, 3)
	takes := func(s string, pattern []marks.Char) {
		if globs.Special(globs.Compile(pattern, false)) {
			t.Fatalf("%q is special", s)
		}
		for _, v := range values {
			for _, op := range trims {
				want := strings.TrimPrefix(v, s)
				if op == api.Tail || op == api.Tails {
					want = strings.TrimSuffix(v, s)
				}
				if got := trimmed(t, op, v, pattern); got != want {
					t.Fatalf("op %d, %q, %q: %q", op, v, s, got)
				}
			}
		}
	}
	for _, s := range everyText(special, 2) {
		takes(s, marks.Of(s, true))
	}
	for _, s := range everyText([]string{"a", "]", "!", "/", "."}, 3) {
		takes(s, marks.Of(s, false))
	}
}

// R2: neither a pattern nor what stands behind its length is written into.
func TestTrimLeavesItsPattern_R2(t *testing.T) {
	for _, s := range []string{"*a*?[!b][a-c]rest", `\*<*>**?rest`, "[a"} {
		whole := text(s)
		was := slices.Clone(whole)
		for n := range len(whole) + 1 {
			for _, op := range trims {
				trimmed(t, op, "a*ab", whole[:n])
			}
		}
		if !slices.Equal(whole, was) {
			t.Errorf("%s is %v", s, whole)
		}
	}
}
