package reader_test

import (
	"math/rand/v2"
	"slices"
	"strings"
	"testing"

	"whelk/api"
	"whelk/lexer"
	"whelk/reader"
	"whelk/trees"
)

// soupParts mean something in one place or another.
var soupParts = append(slices.Clone(bits), "$", "`", "\"", "'", "\\", "$(", "${", "$((", "))", "}", ")", "#", "${x-", "$x", "$$", "<<E", "<<'E'", "<<-E", "\nE\n", "\n", "\t", " ", "a ", "l ", "m", "=", "%", ":", "1", "\\\n", "if a; then b; fi", "{ a; }", "(a)", "`a`", "$(a)", "${x}", "$((1))", "'b'", "\"c\"")

func soup(r *rand.Rand, most int) string {
	var out strings.Builder
	for range r.IntN(most + 1) {
		out.WriteString(soupParts[r.IntN(len(soupParts))])
		if r.IntN(3) > 0 {
			out.WriteByte(' ')
		}
	}
	return out.String()
}

// Any bytes are read, need more, or are wrong at a place; what stands ahead of that place is not wrong.
func TestAnyBytes_P13_2(t *testing.T) {
	r := rand.New(rand.NewPCG(13, 3))
	known := aliases(map[string]string{"a": "b c", "l": "ls ", "m": "a; l", "f": "if", "x=1": "no"})
	count := map[api.Errno]int{}
	for i := range 120000 {
		alias := known
		if i%2 == 0 {
			alias = nil
		}
		s := soup(r, 12)
		l, at, place, e := reader.Line(s, 0, alias)
		count[e]++
		switch e {
		case api.OK:
			if may := trees.Check(l); at < 0 || at > len(s) || place != 0 || may != api.OK && may != api.ErrDeep {
				t.Fatalf("%q: %s, %d, %d, %v", s, told(l), at, place, may)
			}
			continue
		case api.ErrMore:
			if place != len(s) {
				t.Fatalf("%q: %d, not %d", s, place, len(s))
			}
		case api.ErrSyntax:
			if place < 0 || place > len(s) {
				t.Fatalf("%q: %d", s, place)
			}
			_, _, cut, ahead := reader.Line(s[:place], 0, alias)
			if ahead == api.OK || ahead == api.ErrMore {
				break
			}
			// A word of which a part is cut off may be another thing.
			if x, _ := lexer.Next(s, cut); x.Stop <= place {
				t.Fatalf("%q: %d, but ahead of it it is %v at %d", s, place, ahead, cut)
			}
		default:
			t.Fatalf("%q: %v", s, e)
		}
		if len(l) != 0 || at != 0 {
			t.Fatalf("%q: %s, %d, %v", s, told(l), at, e)
		}
	}
	if count[api.OK] < 10000 || count[api.ErrMore] < 10000 || count[api.ErrSyntax] < 10000 {
		t.Error(count)
	}
}

// Any bytes at all.
func TestRawBytes_R1(t *testing.T) {
	r := rand.New(rand.NewPCG(13, 4))
	const marks = "$(){}`\"'\\\n<a;|&x1#!="
	for range 60000 {
		b := make([]byte, r.IntN(24))
		for i := range b {
			b[i] = byte(r.IntN(256))
			if r.IntN(4) > 0 {
				b[i] = marks[r.IntN(len(marks))]
			}
		}
		s, from := string(b), r.IntN(len(b)+3)-1
		l, at, place, e := reader.Line(s, from, nil)
		if (e == api.ErrArg) != (from < 0 || from > len(s)) || e == api.OK && (at < from || at > len(s)) {
			t.Fatalf("%q from %d: %s, %d, %d, %v", s, from, told(l), at, place, e)
		}
		w, place, e := reader.Word(s)
		if e == api.OK && trees.Check([]api.Node{{Kind: api.Simple, Words: []api.Word{{{Kind: api.Bare, Text: "a"}}, w}}}) == api.ErrArg {
			t.Fatalf("%q: %s, %d", s, toldWord(w), place)
		}
	}
}

// What is read of a line, and where it ends, is the same, whatever lines stand behind, and whatever stands ahead.
func TestLinesStandAlone_P13_3(t *testing.T) {
	r := rand.New(rand.NewPCG(13, 5))
	whole := 0
	for range 60000 {
		s := soup(r, 10) + "\n"
		l, at, place, e := reader.Line(s, 0, nil)
		// Behind a \ a line feed ends no line.
		if e == api.ErrMore || strings.HasSuffix(s, "\\\n") || e == api.OK && at == len(s) && len(l) == 0 {
			continue
		}
		whole++
		for _, behind := range []string{")", "a\n", "\"", "E\n", "; ;", soup(r, 5)} {
			if l2, at2, place2, e2 := reader.Line(s+behind, 0, nil); !trees.Same(l, l2) || at2 != at || place2 != place || e2 != e {
				t.Fatalf("%q: %s, %d, %d, %v; with %q behind %s, %d, %d, %v", s, told(l), at, place, e, behind, told(l2), at2, place2, e2)
			}
		}
		ahead := "x 'y\n" + "'\n"
		if e != api.OK {
			place += len(ahead)
		} else {
			at += len(ahead)
		}
		if l2, at2, place2, e2 := reader.Line(ahead+s, len(ahead), nil); !trees.Same(l, l2) || at2 != at || place2 != place || e2 != e {
			t.Fatalf("%q: %s, %d, %d, %v; behind others %s, %d, %d, %v", s, told(l), at, place, e, told(l2), at2, place2, e2)
		}
	}
	if whole < 10000 {
		t.Error(whole)
	}
}

// A Program is its lines, and is wrong where the first one is that is.
func TestProgramIsLines_P13_1(t *testing.T) {
	r := rand.New(rand.NewPCG(13, 6))
	known := aliases(map[string]string{"a": "b c", "l": "ls "})
	read := 0
	for range 40000 {
		s := soup(r, 4) + "\n" + soup(r, 4) + "\n" + soup(r, 4)
		var want []api.Node
		wantPlace, wantE := 0, api.OK
		for at := 0; at < len(s) && wantE == api.OK; {
			var l []api.Node
			l, at, wantPlace, wantE = reader.Line(s, at, known)
			want = append(want, l...)
		}
		if wantE != api.OK {
			want = nil
		}
		l, place, e := reader.Program(s, known)
		if !trees.Same(l, want) || place != wantPlace || e != wantE {
			t.Fatalf("%q: %s, %d, %v, not %s, %d, %v", s, told(l), place, e, told(want), wantPlace, wantE)
		}
		if e == api.OK && len(l) > 1 {
			read++
		}
	}
	if read < 1000 {
		t.Error(read)
	}
}

// ends are what something that needs more may go on with.
var ends = []string{"", " a", ";", "\n", ")", " }", " a; }", " fi", " then a; fi", " a; then a; fi", " do a; done", " a; do a; done", " done", " x", " x do a; done", " in esac", " x in esac", " esac", ") esac", "()", "(a)"}

// canEnd is whether so many ends, or fewer, make it one that is read.
func canEnd(s string, most int) bool {
	if most == 0 {
		return false
	}
	for _, end := range ends {
		for _, more := range []string{s + end, s + end + ";"} {
			if _, _, _, e := reader.Line(more, 0, nil); e == api.OK || e == api.ErrMore && canEnd(more, most-1) {
				return true
			}
		}
	}
	return false
}

func TestMoreCanCome_P13_3(t *testing.T) {
	r := rand.New(rand.NewPCG(13, 7))
	count := 0
	for range 60000 {
		s := soup(r, 6)
		if _, _, _, e := reader.Line(s, 0, nil); e != api.ErrMore {
			continue
		}
		// A text in place would have to be ended by its own mark; behind a comment nothing comes but a line feed.
		if _, _, e := lexer.All(s); e != api.OK || strings.Contains(s, "<<") || strings.Contains(s, "#") {
			continue
		}
		count++
		found := false
		for most := 1; most <= 4 && !found; most++ {
			found = canEnd(s, most)
		}
		if !found {
			t.Fatalf("%q needs more, but what?", s)
		}
	}
	if count < 2000 {
		t.Error(count)
	}
}
