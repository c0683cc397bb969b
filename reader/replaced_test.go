package reader_test

import (
	"math/rand/v2"
	"slices"
	"strings"
	"testing"

	"whelk/api"
	"whelk/lexer"
	"whelk/reader"
)

// chunk is a thing, and the aliases in whose texts it stands.
type chunk struct {
	lexer.Token
	in    []string
	blank bool // the word behind it is looked at
}

// replacer is a second reading of aliases, over Simples that are parted by ops: their texts are put in place ahead of reading.
type replacer struct {
	known map[string]string
	count int
}

func chunks(s string, in []string, blank bool) []chunk {
	l, _, _ := lexer.All(s)
	var out []chunk
	for _, t := range l {
		out = append(out, chunk{t, in, false})
	}
	if len(out) > 0 {
		out[len(out)-1].blank = blank
	}
	return out
}

// Where a thing stands.
const (
	first = iota
	behind
	target
)

// replaced is a script without aliases.
func (r *replacer) replaced(s string) string {
	rest := chunks(s, nil, false)
	var out []string
	at, back, look := first, first, false
	for len(rest) > 0 {
		t := rest[0]
		text, known := r.known[t.Text]
		if t.Kind == lexer.Word && known && !slices.Contains(t.in, t.Text) && (at == first || at == behind && look) {
			r.count++
			l := chunks(text, append(slices.Clone(t.in), t.Text), false)
			blank := strings.HasSuffix(text, " ") || t.blank
			if look = true; len(l) == 0 {
				look = blank
			} else {
				l[len(l)-1].blank = blank
			}
			rest = append(l, rest[1:]...)
			continue
		}
		rest, look = rest[1:], t.blank
		gap := " "
		switch {
		case at == target:
			at = back
		case t.Kind == lexer.Number:
			gap = ""
		case t.Kind == lexer.Op && strings.ContainsAny(t.Text, "<>"):
			back, at = at, target
		case t.Kind == lexer.Op:
			at = first
		case !strings.Contains(t.Text, "="):
			at = behind
		}
		out = append(out, t.Text+gap)
	}
	return strings.Join(out, "")
}

// row is up to most parts, a blank between each two; a part may end with one.
func row(r *rand.Rand, parts []string, most int) string {
	var out []string
	for range r.IntN(most + 1) {
		out = append(out, parts[r.IntN(len(parts))])
	}
	s := strings.Join(out, " ")
	if r.IntN(3) == 0 {
		s += " "
	}
	return s
}

func TestAliasesReplaced_P13_1(t *testing.T) {
	r := rand.New(rand.NewPCG(13, 1))
	parts := []string{"a", "b", "c", "d", "e", "a", "b", "c", "d", "e", "x=1", ">f", ">a", "2>b", ";", "|", "&&", "'a'", "\\b", "$a"}
	read, wrong, many := 0, 0, 0
	for range 60000 {
		m := &replacer{known: map[string]string{}}
		for _, name := range []string{"a", "b", "c", "d", "f"} {
			if r.IntN(3) > 0 {
				m.known[name] = row(r, parts, 4)
			}
		}
		s := row(r, parts, 7)
		plain := m.replaced(s)
		if m.count > 100 || len(plain) > api.MaxText {
			many++
			continue
		}
		want, _, _, e := reader.Line(plain, 0, nil)
		got, at, _, eGot := reader.Line(s, 0, aliases(m.known))
		switch {
		case strings.TrimSpace(s) != "" && strings.TrimSpace(plain) == "":
			// Something began, so a command is needed.
			if eGot != api.ErrMore {
				t.Fatalf("%q by %q: %s, %v", s, m.known, told(got), eGot)
			}
		case e != eGot || told(got) != told(want) || e == api.OK && at != len(s):
			t.Fatalf("%q by %q: %s, %d, %v; but %q: %s, %v", s, m.known, told(got), at, eGot, plain, told(want), e)
		case e == api.OK:
			read++
		default:
			wrong++
		}
	}
	if read < 10000 || wrong < 10000 || many > 10000 {
		t.Error(read, wrong, many)
	}
}
