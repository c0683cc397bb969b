package writer_test

import (
	"reflect"
	"strings"
	"sync"
	"testing"

	"whelk/api"
	"whelk/reader"
	"whelk/trees"
	"whelk/writer"
)

// A script, and a word, has 4096 bytes at most.
func TestTooGreat_P14_1(t *testing.T) {
	long := func(n int) string { return strings.Repeat("a", n) }
	for i, of := range []func(n int) (string, []api.Node){
		func(n int) (string, []api.Node) { return long(n-1) + "\n", list(simple(long(n - 1))) },
		func(n int) (string, []api.Node) {
			return "b\nb " + long(n-5) + "\n", list(simple("b"), simple("b", long(n-5)))
		},
		func(n int) (string, []api.Node) { return long(n-3) + "\nb\n", list(simple(long(n-3)), simple("b")) },
		func(n int) (string, []api.Node) {
			return "cat 0<<'E'\n" + long(n-14) + "\nE\n", list(cat(single(long(n-14) + "\n")))
		},
		func(n int) (string, []api.Node) {
			return "cat 0<<EE\n" + long(n-16) + "\nE\nEE\n", list(cat(double(bare(long(n-16) + "\nE\n"))))
		},
		func(n int) (string, []api.Node) {
			return "cat 0<<E\n" + long(n-14) + "\\$\nE\n", list(cat(double(bare(long(n-14) + "$\n"))))
		},
		func(n int) (string, []api.Node) {
			return "'" + long(n-7) + `'\'''` + "\n", list(say(single(long(n-7) + "'")))
		},
		func(n int) (string, []api.Node) {
			return "$( " + long(n-6) + "\n)\n", list(say(command(simple(long(n - 6)))))
		},
	} {
		for n := api.MaxText - 40; n <= api.MaxText+40; n++ {
			want, l := of(n)
			if len(want) != n || trees.Check(l) != api.OK {
				t.Fatal(i, n, len(want))
			}
			if n > api.MaxText {
				refuses(t, api.ErrBig, []int{i, n}, l...)
			} else {
				writes(t, want, l...)
			}
		}
	}
	for n := api.MaxText - 40; n <= api.MaxText+40; n++ {
		for want, w := range map[string]api.Word{long(n): {bare(long(n))}, `"` + long(n-4) + `\$"`: {double(bare(long(n-4) + "$"))}, "${x}" + long(n-4): {param("x", api.Value), bare(long(n - 4))}} {
			if n > api.MaxText {
				refusesWord(t, api.ErrBig, n, w...)
			} else {
				spells(t, want, w...)
			}
		}
	}
}

// What is far too great is ErrBig as well, be it one text, many commands, or texts that wait.
func TestFarTooGreat_R1(t *testing.T) {
	text := strings.Repeat("'$`\\\"\nE\n", 1<<18)
	refuses(t, api.ErrBig, "Single", say(single(text)))
	refuses(t, api.ErrBig, "Double", say(double(bare(text))))
	refuses(t, api.ErrBig, "text", cat(single(text)))
	refuses(t, api.ErrBig, "text", cat(double(bare(text))))
	refuses(t, api.ErrBig, "text", cat(double(command(say(single(text))), bare("\n"))))
	refusesWord(t, api.ErrBig, "word", bare("a"), single(text))
	var l []api.Node
	for range 1 << 16 {
		l = append(l, cat(double(command(simple("a")), bare("E\n")), single("E\n")))
	}
	refuses(t, api.ErrBig, "many", l...)
	refuses(t, api.ErrBig, "many in a Command", say(command(simple(strings.Repeat("a", 5000)), simple("b"))))
	var w []api.Piece
	for range 1 << 16 {
		w = append(w, double(), param("x", api.Value))
	}
	refusesWord(t, api.ErrBig, "many", w...)
	// Marks are looked for just in what may be written.
	var lines strings.Builder
	for n := 1; n <= 3000; n++ {
		lines.WriteString(strings.Repeat("E", n) + "\n")
	}
	refuses(t, api.ErrBig, "marks", cat(single(lines.String())))
	refuses(t, api.ErrBig, "marks", cat(double(bare(lines.String()))))
}

// What may not be is ErrArg, or ErrDeep, be it too great or not.
func TestCheckComesFirst_P14_1(t *testing.T) {
	great := simple(strings.Repeat("a", 5000))
	refuses(t, api.ErrArg, "nothing", api.Node{})
	refuses(t, api.ErrArg, "great", great, api.Node{})
	refuses(t, api.ErrArg, "great", great, simple("if"))
	nested := func(n int, l []api.Node) []api.Node {
		for range n {
			l = list(of(api.Group, l))
		}
		return l
	}
	a := list(simple("a"))
	writes(t, strings.Repeat("{\n", 18)+"a\n"+strings.Repeat("}\n", 18), nested(18, a)...)
	refuses(t, api.ErrDeep, "deep", nested(19, a)...)
	refuses(t, api.ErrDeep, "deep and great", nested(19, list(great))...)
	refuses(t, api.ErrDeep, "deep and wrong", nested(19, list(simple("if")))...)
	refuses(t, api.ErrArg, "wrong and great", nested(17, list(great, simple("")))...)
	round := list(of(api.Group, nil))
	round[0].Lists[0] = round
	refuses(t, api.ErrDeep, "in itself", round...)
}

// A word is one that may stand behind another one in a Simple.
func TestWordIsChecked_P14_1(t *testing.T) {
	refusesWord(t, api.ErrArg, "nothing")
	refusesWord(t, api.ErrArg, "no bytes", bare(""))
	refusesWord(t, api.ErrArg, "a comment", bare("#a"))
	refusesWord(t, api.ErrArg, "a blank", bare("a b"))
	refusesWord(t, api.ErrArg, "neighbours", bare("a"), bare("b"))
	refusesWord(t, api.ErrArg, "neighbours", single("a"), single("b"))
	refusesWord(t, api.ErrArg, "no kind", api.Piece{})
	refusesWord(t, api.ErrArg, "a field more", api.Piece{Kind: api.Bare, Text: "a", Op: api.Head})
	refusesWord(t, api.ErrArg, "wrong and great", bare(strings.Repeat("a", 5000)+" "))
	nested := func(n int, p api.Piece) api.Piece {
		for range n {
			p = param("x", api.Default, p)
		}
		return p
	}
	spells(t, strings.Repeat("${x-", 18)+"a"+strings.Repeat("}", 18), nested(18, bare("a")))
	refusesWord(t, api.ErrDeep, "deep", nested(19, bare("a")))
	refusesWord(t, api.ErrDeep, "deep and wrong", nested(19, bare("")))
	refusesWord(t, api.ErrDeep, "deep and great", nested(19, bare(strings.Repeat("a", 5000))))
	kids := []api.Piece{double()}
	kids[0].Kids = kids
	refusesWord(t, api.ErrDeep, "in itself", kids...)
}

// sample has each kind of command and piece, and each way of a text in place.
func sample(t *testing.T) []api.Node {
	t.Helper()
	const script = "x=1 y= a 'b' \"c $x\" ${y:-d e} $( f\n) $((1+${#z})) 2>g 0<&-\ncat <<E | { a <<'F'; }\n\\$ $(a)\nE\nE\nF\n" +
		"! a | (b) && c || d &\nif a; then b; elif c; then d; else e; fi >f\nwhile a; do b; done\nuntil a; do b; done\nfor i in 1 2; do a; done\nfor i; do a; done\ncase a in b|c) d;; (*) esac\nf() { a; } <<E\nE\n"
	l, _, e := reader.Program(script, nil)
	if e != api.OK {
		t.Fatal(e)
	}
	return l
}

// copied is a list that shares nothing, with room behind each length in which something stands.
func copied(v reflect.Value) reflect.Value {
	out := reflect.New(v.Type()).Elem()
	switch v.Kind() {
	case reflect.Slice:
		if v.IsNil() {
			return out
		}
		out = reflect.MakeSlice(v.Type(), v.Len()+1, v.Len()+1)
		for i := range v.Len() {
			out.Index(i).Set(copied(v.Index(i)))
		}
		if v.Len() > 0 {
			out.Index(v.Len()).Set(v.Index(0))
		}
		return out.Slice(0, v.Len())
	case reflect.Struct:
		for i := range v.NumField() {
			out.Field(i).Set(copied(v.Field(i)))
		}
	default:
		out.Set(v)
	}
	return out
}

// whole is all that stands in a list, also behind its length.
func whole(v reflect.Value) reflect.Value {
	if v.Kind() == reflect.Slice && !v.IsNil() {
		return v.Slice(0, v.Cap())
	}
	return v
}

func TestArgumentsStay_R2(t *testing.T) {
	l := copied(reflect.ValueOf(sample(t))).Interface().([]api.Node)
	was := copied(reflect.ValueOf(l)).Interface().([]api.Node)
	if _, e := writer.Script(l); e != api.OK {
		t.Fatal(e)
	}
	for _, n := range l {
		for _, w := range n.Words {
			writer.Word(w)
		}
	}
	if !sameWhole(reflect.ValueOf(l), reflect.ValueOf(was)) {
		t.Error("what was handed in is another one")
	}
}

// sameWhole holds two copies against each other, with what stands behind their lengths.
func sameWhole(a, b reflect.Value) bool {
	switch a.Kind() {
	case reflect.Slice:
		if a.Len() != b.Len() || a.IsNil() != b.IsNil() {
			return false
		}
		for i := range a.Len() {
			if !sameWhole(a.Index(i), b.Index(i)) {
				return false
			}
		}
		a, b = whole(a), whole(b)
		return a.Len() == b.Len() && (a.Len() == 0 || reflect.DeepEqual(a.Index(a.Len()-1).Interface(), b.Index(b.Len()-1).Interface()))
	case reflect.Struct:
		for i := range a.NumField() {
			if !sameWhole(a.Field(i), b.Field(i)) {
				return false
			}
		}
		return true
	}
	return a.Equal(b)
}

// The same is answered again, and by many at once.
func TestAnswersHangOnArguments_R3(t *testing.T) {
	l := sample(t)
	want, e := writer.Script(l)
	if e != api.OK || want == "" {
		t.Fatal(e)
	}
	var all sync.WaitGroup
	for range 8 {
		all.Go(func() {
			for range 50 {
				writer.Script(list(cat(single("E\n")), api.Node{}))
				writer.Word(api.Word{double(bare("$"))})
				if s, e := writer.Script(l); s != want || e != api.OK {
					t.Errorf("%q, %v, not %q", s, e, want)
				}
			}
		})
	}
	all.Wait()
	readAgain(t, want, l)
}
