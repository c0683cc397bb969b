package reader_test

import (
	"testing"

	"whelk/api"
	"whelk/reader"
)

func TestTexts_P13_1(t *testing.T) {
	reads(t, nil, [][2]string{
		{"a <<E\nx\ny\nE\n", "[a 0<<\"x\ny\n\"]"}, {"a <<E\nx\nE", "[a 0<<\"x\n\"]"}, {"<<E\nE\n", "[0<<\"\"]"}, {"2<<E a\nx\nE\n", "[a 2<<\"x\n\"]"}, {"a <<E b; c\nx\nE\n", "[a b 0<<\"x\n\"]; [c]"},
		{"a <<'E'\n$x\\\nE\n", "[a 0<<'$x\\\n']"}, {"a <<'E'\nE\n", "[a 0<<'']"}, {"a <<-E\n\t\tx\n \ty\n\tE\n", "[a 0<<\"x\n \ty\n\"]"}, {"a <<-'E'\n\tx\n\t\tE\n", "[a 0<<'x\n']"}, {"a <<E\n\tx\n\tE\nE\n", "[a 0<<\"\tx\n\tE\n\"]"},
		{"a <<E <<F\n1\nE\n2\nF\n", "[a 0<<\"1\n\" 0<<\"2\n\"]"}, {"a <<E | b 3<<'F' &&\n1\nE\n2\nF\nc", "and(pipe([a 0<<\"1\n\"])([b 3<<'2\n']))([c])"}, {"a <<E; <<E\nE\n1\nE\n", "[a 0<<\"\"]; [0<<\"1\n\"]"}, {"a <<E #b\nE\n", "[a 0<<\"\"]"},
		{"if a <<E\n1\nE\nthen b <<E; c\n2\nE\nfi <<E\n3\nE\n", "if 0<<\"3\n\"([a 0<<\"1\n\"])([b 0<<\"2\n\"]; [c])"}, {"{ a <<E\n\nE\n}", "group([a 0<<\"\n\"])"}, {"f() { a <<E\nx\nE\n}", "func f(group([a 0<<\"x\n\"]))"}, {"{ a; } <<E\nx\nE\n", "group 0<<\"x\n\"([a])"}, {"for x in a\ndo b <<E\nx\nE\ndone", "for x in a([b 0<<\"x\n\"])"}, {"case a in b) c <<E\nx\nE\nesac", "switch a{b: [c 0<<\"x\n\"]}"},
		{"a <<E \"b\nc\" d\nx\nE\n", "[a \"b\nc\" d 0<<\"x\n\"]"}, {"a <<E \\\n b\nx\nE\n", "[a b 0<<\"x\n\"]"}, {"a <<E $(b\nc)\nx\nE\n", "[a $([b]; [c]) 0<<\"x\n\"]"},
	})
	lacks(t, "a <<E", "a <<E\n", "a <<E\nx", "a <<E\nx\nE ", "a <<E\n E\n", "a <<-E\n E\n", "a <<E <<F\nE\n", "a <<E <<F\nE\nF x", "{ a <<E\nE\n", "{ a <<E\nx }\n", "a <<'E\n'\nE\n\n", "a <<''\nx\n", "a <<E; b #E", "a <<E &&\nE\n")
}

func TestTextPieces_P13_1(t *testing.T) {
	reads(t, nil, [][2]string{
		{"<<E\n$x${y-'z'}\"'\nE\n", "[0<<\"${x}.${y-'z'}.\"'\n\"]"}, {"<<E\n\\$\\`\\\\\\\"\\a\\'\nE\n", "[0<<\"$`\\\\\"\\a\\'\n\"]"}, {"<<E\na\\\nb\nE\n", "[0<<\"a\\\nb\n\"]"}, {"<<E\n\\\\\n\\\\\\\nE\n", "[0<<\"\\\n\\\\\n\"]"}, {"<<E\n$\n$.$'a'$\"b\"\nE\n", "[0<<\"$\n$.$'a'$\"b\"\n\"]"},
		{"<<E\n$(a\n\"b\")$((1+`c`))#d\nE\n", "[0<<\"$([a]; [\"b\"]).$((1+.$([c]))).#d\n\"]"}, {"<<E\n\"$x\"\nE\n", "[0<<\"\".${x}.\"\n\"]"}, {"<<E\n${x-\"$y\"}\nE\n", "[0<<\"${x-\"${y}\"}.\n\"]"}, {"<<E\n`a \\`b\\``$$(c)\nE\n", "[0<<\"$([a $([b])]).$.$([c]).\n\"]"}, {"<<E\n\"a`b \"c\"`\nE\n", "[0<<\"\"a.$([b \"c\"]).\n\"]"},
		{"<<-E\n\t$x\n\ta\n\tE\n", "[0<<\"${x}.\na\n\"]"}, {"<<E\n; ) }\n#\nE\n", "[0<<\"; ) }\n#\n\"]"},
	})
	// A hole goes on over the lines of its text, but not behind its mark.
	reads(t, nil, [][2]string{{"<<E\n$(a\nb)\nE\n", "[0<<\"$([a]; [b]).\n\"]"}})
	wrongAt(t, nil,
		"<<E\n^$(a\nE\n)\n", "<<E\n^x\n${\nE\n", "<<E\n^`\nE\n", "a <<E\n^x ${}\nE\n", "a <<E\n^x $(;)\nE\n", "a <<E\n^x `;`\nE\n", "a <<E\n^x $((#))\nE\n", "a <<E\n^$(b <<F)\nE\n", "a <<-E\n^\t\t${}\nE\n", "a <<E <<F\n1\nE\n^2${}\nF\n", "a <<E <<F\n^1${}\nE\n2${}\nF\n", "{ a <<E\n^$(if)\nE\n}", "a <<E <<F\n^1$(\nE\n",
		"a <<E ^)\n${}\nE\n", "a <<E ${^}\n${}\nE\n", "a <<E && ^|\nE\n",
	)
	failsWith(t, nil, []fault{{"a <<'E' <<F\n${}\nE\n2\n", 20, api.ErrMore}, {"a <<E <<F\n1\nE\n$(", 16, api.ErrMore}})
}

func TestMarks_P13_1(t *testing.T) {
	reads(t, nil, [][2]string{
		{"<<\\E\n$x\nE\n", "[0<<'$x\n']"}, {"<<E'F'\n$x\nEF\n", "[0<<'$x\n']"}, {"<<\"E F\"\n$x\nE F\n", "[0<<'$x\n']"}, {"<<''\nx\n\n", "[0<<'x\n']"}, {"<<E\\\nF\n$x\nEF\n", "[0<<'$x\n']"}, {"<<\\\n E\n$x\nE\n", "[0<<\"${x}.\n\"]"}, {"<<E\\'\n$x\nE'\n", "[0<<'$x\n']"},
		{"<<'a\\b'\nx\na\\b\n", "[0<<'x\n']"}, {"<<\"a\\b\\\"\"\nx\na\\b\\\"\n", "[0<<'x\n']"}, {"<<\"$a\"\nx\n$a\n", "[0<<'x\n']"}, {"<<$a\nx\n$a\n", "[0<<\"x\n\"]"}, {"<<$(a 'b')\n$x\n$(a 'b')\n", "[0<<\"${x}.\n\"]"}, {"<<${}\nx\n${}\n", "[0<<\"x\n\"]"}, {"<<`a \\` b`\nx\n`a \\` b`\n", "[0<<\"x\n\"]"}, {"<<${a\"}\"}\\c\nx\n${a\"}\"}c\n", "[0<<'x\n']"}, {"<<if\nx\nif\n", "[0<<\"x\n\"]"}, {"<<x=1\nx=1\n", "[0<<\"\"]"}, {"<<-\tE\n\tE\n", "[0<<\"\"]"}, {"<< 2\n2\n", "[0<<\"\"]"},
	})
	wrongAt(t, nil, "<<^2>f\n", "<<^(E)\n")
}

// A line ends behind its texts in place.
func TestTextsPlace_P13_1(t *testing.T) {
	s := "\na <<E; b <<'F'\n1\nE\nE\nF\nc\n"
	for _, c := range []struct {
		from, at int
		told     string
	}{{0, 24, "[a 0<<\"1\n\"]; [b 0<<'E\n']"}, {24, 26, "[c]"}, {7, 24, "[b 0<<'1\nE\nE\n']"}} {
		if l, at, place, e := reader.Line(s, c.from, nil); told(l) != c.told || at != c.at || place != 0 || e != api.OK {
			t.Errorf("from %d: %s, %d, %d, %v", c.from, told(l), at, place, e)
		}
	}
}
