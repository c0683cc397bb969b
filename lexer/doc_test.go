package lexer_test

import (
	"math"
	"strings"
	"testing"

	"whelk/api"
	"whelk/lexer"
)

func TestDoc_P11_3(t *testing.T) {
	for _, x := range []struct {
		s, mark string
		at      int
		tabs    bool
		want    string
		stop    int
	}{
		{"x\n\tE\ny", "E", 0, true, "x\n", 5}, {"E\n", "E", 0, false, "", 2}, {"E", "E", 0, false, "", 1}, {"a\nE", "E", 0, false, "a\n", 3}, {"a\nE\nb\nE\n", "E", 0, false, "a\n", 4},
		{"a\nE\nb\nE\n", "E", 4, false, "b\n", 8}, {"cat <<E\na b\n'\nE\n", "E", 8, false, "a b\n'\n", 16}, {"xE\n", "E", 1, false, "", 3}, {"aaE", "aE", 1, false, "", 3},
		{"EE\nE \n E\ne\nE\n", "E", 0, false, "EE\nE \n E\ne\n", 13}, {"a\\\nE\n", "E", 0, false, "a\\\n", 5}, {"$(\n'\n\"\n`\nE\n", "E", 0, false, "$(\n'\n\"\n`\n", 11}, {"#\n\nE\n", "E", 0, false, "#\n\n", 5},
		{"a b\n", "a b", 0, false, "", 4}, {"\\\n", `\`, 0, false, "", 2}, {"E\r\nE\n", "E", 0, false, "E\r\n", 5}, {"\x00\xff\nE", "E", 0, false, "\x00\xff\n", 4},
		// Tabs.
		{"\ta\n\tE\nE\n", "E", 0, false, "\ta\n\tE\n", 8}, {"\ta\n\tE\nE\n", "E", 0, true, "a\n", 6}, {"\t\t a\tb\t\n\t\tE", "E", 0, true, " a\tb\t\n", 11}, {"\t \tE\n\tE\n", "E", 0, true, " \tE\n", 8}, {"\t\nE\n", "E", 0, true, "\n", 4}, {"\tE\n", "\tE", 0, false, "", 3}, {"E\t\nE\n", "E", 0, true, "E\t\n", 5}, {"a\t\n\tE\n", "E", 1, true, "\n", 6},
		// A mark without bytes.
		{"a\n\nb\n", "", 0, false, "a\n", 3}, {"\n", "", 0, false, "", 1}, {"a\n\t\n", "", 0, true, "a\n", 4}, {"a\n\t", "", 0, true, "a\n", 3}, {"a\n\t\n\n", "", 0, false, "a\n\t\n", 5},
	} {
		if got, stop, e := lexer.Doc(x.s, x.at, x.mark, x.tabs); got != x.want || stop != x.stop || e != api.OK {
			t.Errorf("Doc(%q, %d, %q, %v) = %q, %d, %v", x.s, x.at, x.mark, x.tabs, got, stop, e)
		}
	}
}

func TestDocErrors_P11_3(t *testing.T) {
	for _, x := range []struct {
		s, mark string
		at      int
		tabs    bool
		want    api.Errno
	}{
		{long(4097), "E", 0, false, api.ErrBig}, {"E\n" + long(4096), "E", 0, false, api.ErrBig}, {long(4097), "E", -1, false, api.ErrBig}, {long(4097), "E", 4098, true, api.ErrBig},
		{"E\n", "E", -1, false, api.ErrArg}, {"E\n", "E", 3, false, api.ErrArg}, {"E\n", "E", math.MinInt, true, api.ErrArg}, {"E\n", "E", math.MaxInt, true, api.ErrArg}, {"", "", 1, false, api.ErrArg},
		{"", "E", 0, false, api.ErrMore}, {"a", "E", 0, false, api.ErrMore}, {"a\n", "E", 0, false, api.ErrMore}, {"E\n", "E", 2, false, api.ErrMore}, {"E\n", "E", 1, false, api.ErrMore}, {"a\nE ", "E", 0, false, api.ErrMore}, {"a\n E", "E", 0, true, api.ErrMore}, {"a\n\tE", "E", 0, false, api.ErrMore}, {"a\nEE\n", "E", 0, false, api.ErrMore}, {"E\r\n", "E", 0, false, api.ErrMore},
		{"E\n", "E\n", 0, false, api.ErrMore}, {"a\nb\n", "a\nb", 0, false, api.ErrMore}, {"\n\n", "\n", 0, false, api.ErrMore}, {"\tE\n", "\tE", 0, true, api.ErrMore}, {"E\n", long(5000), 0, false, api.ErrMore},
		// Behind the last line feed there is a line only if it has bytes.
		{"", "", 0, false, api.ErrMore}, {"a\n", "", 0, false, api.ErrMore}, {"a\n", "", 2, true, api.ErrMore}, {"a", "", 1, false, api.ErrMore}, {"\t", "", 0, false, api.ErrMore},
	} {
		if got, stop, e := lexer.Doc(x.s, x.at, x.mark, x.tabs); got != "" || stop != 0 || e != x.want {
			t.Errorf("Doc(%.20q, %d, %.20q, %v) = %q, %d, %v", x.s, x.at, x.mark, x.tabs, got, stop, e)
		}
	}
	s := long(4093) + "\nE\n"
	if got, stop, e := lexer.Doc(s, 0, "E", true); got != s[:4094] || stop != 4096 || e != api.OK {
		t.Error(len(got), stop, e)
	}
}

// docByLines is a second reading: all lines are cut first, and counted on.
func docByLines(s string, at int, mark string, tabs bool) (string, int, api.Errno) {
	lines := strings.SplitAfter(s[at:], "\n")
	if last := len(lines) - 1; lines[last] == "" {
		lines = lines[:last]
	}
	body := ""
	for _, l := range lines {
		at += len(l)
		for tabs && l != "" && l[0] == '\t' {
			l = l[1:]
		}
		if l == mark || l == mark+"\n" && !strings.Contains(mark, "\n") {
			return body, at, api.OK
		}
		body += l
	}
	return "", 0, api.ErrMore
}

func TestDocAll_P11_3(t *testing.T) {
	everyText("E\n\tx", 6, func(s string) {
		for at := range len(s) + 1 {
			for _, mark := range []string{"E", "", "EE", "x", "\t", "\tE", "xE"} {
				for _, tabs := range []bool{false, true} {
					want, wantStop, wantE := docByLines(s, at, mark, tabs)
					if got, stop, e := lexer.Doc(s, at, mark, tabs); got != want || stop != wantStop || e != wantE {
						t.Fatalf("Doc(%q, %d, %q, %v) = %q, %d, %v, not %q, %d, %v", s, at, mark, tabs, got, stop, e, want, wantStop, wantE)
					}
				}
			}
		}
	})
}

// What is told of whole lines is told whatever lines stand behind, and what is ErrMore may come to its end.
func TestDocBehind_P11_4(t *testing.T) {
	everyText("E\n\tx", 5, func(s string) {
		for _, mark := range []string{"E", "", "xE"} {
			for _, tabs := range []bool{false, true} {
				got, stop, e := lexer.Doc(s, 0, mark, tabs)
				if e == api.ErrMore {
					if _, _, e := lexer.Doc(s+"\n"+mark+"\n", 0, mark, tabs); e != api.OK {
						t.Fatalf("%q, %q, %v: %v", s, mark, tabs, e)
					}
					continue
				}
				if s[stop-1] != '\n' {
					continue
				}
				for _, behind := range []string{"E", "\n", "\n\nE\n", "x", mark, mark + "\n"} {
					if again, place, e := lexer.Doc(s+behind, 0, mark, tabs); again != got || place != stop || e != api.OK {
						t.Fatalf("%q, %q, %v: %q, %d, %v", s+behind, mark, tabs, again, place, e)
					}
				}
			}
		}
	})
}
