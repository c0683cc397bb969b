package sums_test

import (
	"math"
	"slices"
	"strings"
	"testing"

	"whelk/api"
	"whelk/sums"
)

// Short ways of telling expressions.
func num(n int64) sums.Expr   { return sums.Expr{Op: "num", Num: n} }
func name(s string) sums.Expr { return sums.Expr{Op: "name", Name: s} }

func op(mark string, kids ...sums.Expr) sums.Expr { return sums.Expr{Op: mark, Kids: kids} }

func set(s, mark string, kid sums.Expr) sums.Expr {
	return sums.Expr{Op: mark, Name: s, Kids: []sums.Expr{kid}}
}

// same is whether two expressions are one, to each field.
func same(a, b sums.Expr) bool {
	return a.Op == b.Op && a.Num == b.Num && a.Name == b.Name && slices.EqualFunc(a.Kids, b.Kids, same)
}

// told is an expression with all its fields, be it one or not.
func told(e sums.Expr) string {
	var kids []string
	for _, k := range e.Kids {
		kids = append(kids, told(k))
	}
	return e.Op + " " + sums.Text(e.Num) + " " + e.Name + "[" + strings.Join(kids, ", ") + "]"
}

// table is a store of names and values, one behind the other.
func table(l ...string) *sums.Table {
	t := &sums.Table{}
	for i := 0; i < len(l); i += 2 {
		t.Pairs = append(t.Pairs, sums.Pair{Name: l[i], Value: l[i+1]})
	}
	return t
}

// nested is an expression of as many Ops in one another.
func nested(n int) sums.Expr {
	e := num(1)
	for range n - 1 {
		e = op("pos", e)
	}
	return e
}

var twos = []string{"*", "/", "%", "+", "-", "<<", ">>", "<", "<=", ">", ">=", "==", "!=", "&", "^", "|", "&&", "||"}
var sets = []string{"=", "*=", "/=", "%=", "+=", "-=", "<<=", ">>=", "&=", "^=", "|="}

func TestNumber_P3_1(t *testing.T) {
	for s, want := range map[string]int64{
		"": 0, " ": 0, "\t\n\v\f\r ": 0,
		"0": 0, "7": 7, "42": 42, " 42\n": 42, "\v\f42\r\t": 42, "+5": 5, "-5": -5, " -5 ": -5, "+0": 0, "-0": 0,
		"00": 0, "010": 8, "0777": 511, "-017": -15, "0000000000000000000000000000000000000012": 10,
		"0x0": 0, "0xff": 255, "0X1f": 31, "0xFF": 255, "0xaBcDeF": 0xabcdef, "-0x10": -16, "+0X9": 9,
		"0x00000000000000000000000000000000000000ff": 255,
		"9223372036854775807":                        math.MaxInt64, "+9223372036854775807": math.MaxInt64,
		"0x7fffffffffffffff": math.MaxInt64, "0777777777777777777777": math.MaxInt64,
		"-9223372036854775807": -math.MaxInt64, "-9223372036854775808": math.MinInt64,
		"-0x8000000000000000": math.MinInt64, "-01000000000000000000000": math.MinInt64,
	} {
		if got, e := sums.Number(s); got != want || e != api.OK {
			t.Errorf("Number(%q) = %d, %v", s, got, e)
		}
	}
}

func TestNumberErrors_P3_1(t *testing.T) {
	for _, s := range []string{
		"-", "+", " - ", "--5", "+-5", "- 5", "+ 5", "1 2", "5-", "a", "x1", "_", "1a", "1_", "1.0", "1e3",
		"08", "09", "0128", "00x1", "0x", "0X", "0xg", "0x 1", "0x1g", "x10", "0x-1", "1\x00", "\x001", "\xa01", "1\x85", "0b1", "0o7", "1,000", "1_0", "(1)", "!1",
		"9223372036854775808", "+9223372036854775808", "-9223372036854775809", "0x8000000000000000", "-0x8000000000000001",
		"01000000000000000000000", "-01000000000000000000001", "18446744073709551616", "18446744073709551617", "-18446744073709551617",
		"99999999999999999999", "0x10000000000000000", "0x10000000000000001", strings.Repeat("9", 4000), "-" + strings.Repeat("f", 100),
	} {
		if got, e := sums.Number(s); got != 0 || e != api.ErrNumber {
			t.Errorf("Number(%q) = %d, %v", s, got, e)
		}
	}
}

func TestNumberLong_P3_1(t *testing.T) {
	many := 1 << 20
	if got, e := sums.Number(strings.Repeat(" ", many) + "-" + strings.Repeat("0", many) + "12" + strings.Repeat("\n", many)); got != -10 || e != api.OK {
		t.Error(got, e)
	}
	if got, e := sums.Number(strings.Repeat("1", many)); got != 0 || e != api.ErrNumber {
		t.Error(got, e)
	}
}

func TestText_P3_1(t *testing.T) {
	for n, want := range map[int64]string{
		0: "0", 7: "7", -7: "-7", 100: "100", math.MaxInt64: "9223372036854775807", math.MinInt64: "-9223372036854775808",
	} {
		if got := sums.Text(n); got != want {
			t.Errorf("Text(%d) = %q", n, got)
		}
		if got, e := sums.Number(want); got != n || e != api.OK {
			t.Errorf("Number(%q) = %d, %v", want, got, e)
		}
	}
}

func TestTable_P3_1(t *testing.T) {
	x := &sums.Table{Pairs: []sums.Pair{{Name: "a", Value: "1"}, {Name: "b", Value: "2", Fixed: true}, {Name: "a", Value: "3", Fixed: true}, {Name: "b", Value: "4"}}}
	get := func(name, want string, there bool) {
		t.Helper()
		if got, ok := x.Get(name); got != want || ok != there {
			t.Errorf("Get(%q) = %q, %v", name, got, ok)
		}
	}
	put := func(name, value string, want api.Errno) {
		t.Helper()
		if e := x.Set(name, value); e != want {
			t.Errorf("Set(%q, %q) = %v", name, value, e)
		}
	}
	get("a", "1", true)
	get("b", "2", true)
	get("c", "", false)
	put("a", "9", api.OK)
	put("b", "9", api.ErrRead)
	put("c", "8", api.OK)
	put("", "no name", api.OK)
	get("a", "9", true)
	get("b", "2", true)
	get("c", "8", true)
	get("", "no name", true)
	put("c", "", api.OK)
	get("c", "", true)
	want := []sums.Pair{{Name: "a", Value: "9"}, {Name: "b", Value: "2", Fixed: true}, {Name: "a", Value: "3", Fixed: true}, {Name: "b", Value: "4"}, {Name: "c"}, {Value: "no name"}}
	if !slices.Equal(x.Pairs, want) {
		t.Errorf("%v", x.Pairs)
	}
}

func TestNilTable_P3_1(t *testing.T) {
	var x *sums.Table
	if got, ok := x.Get("a"); got != "" || ok {
		t.Error("Get", got, ok)
	}
	if e := x.Set("a", "1"); e != api.ErrNil {
		t.Error("Set", e)
	}
}

// R2, R3: Pairs that two tables are made of are not written into, nor is what stands behind them.
func TestTablesShareNothing_R2(t *testing.T) {
	all := []sums.Pair{{Name: "a", Value: "1"}, {Name: "b", Value: "2"}, {Name: "z", Value: "9"}}
	was := slices.Clone(all)
	x, y := &sums.Table{Pairs: all[:2]}, &sums.Table{Pairs: all[:2]}
	x.Set("a", "5")
	x.Set("c", "3")
	if !slices.Equal(all, was) {
		t.Errorf("the Pairs were written into: %v", all)
	}
	if got, ok := y.Get("a"); got != "1" || !ok {
		t.Error(got, ok)
	}
	if got, ok := y.Get("c"); got != "" || ok {
		t.Error(got, ok)
	}
	x.Set("d", "4")
	z := *x
	x.Set("e", "5")
	z.Set("f", "6")
	x.Set("d", "7")
	if got, _ := x.Get("e"); got != "5" {
		t.Error("a copy of a table wrote into it")
	}
	if got, _ := z.Get("d"); got != "4" {
		t.Error("a table wrote into its copy")
	}
}

// R2: expressions that are handed in are left as they are.
func TestExpressionsAreLeft_R2(t *testing.T) {
	kids := []sums.Expr{num(1), op("neg", name("x")), num(3)}
	e := sums.Expr{Op: "+", Kids: kids[:2]}
	was := told(op("+", kids...))
	sums.Show(e)
	sums.Value(e, table("x", "1"))
	if told(op("+", kids...)) != was {
		t.Error(told(op("+", kids...)))
	}
}

// R2: Kids of an answer are lists of their own.
func TestAnswersAreNew_R2(t *testing.T) {
	e, _, _ := sums.Parse("1+2*x?y=3:-4")
	var lists [][]sums.Expr
	var gather func(e sums.Expr)
	gather = func(e sums.Expr) {
		if len(e.Kids) > 0 {
			lists = append(lists, e.Kids)
		}
		for _, k := range e.Kids {
			gather(k)
		}
	}
	gather(e)
	for i, l := range lists {
		_ = append(l[:len(l):cap(l)], num(77))
		whole := l[:cap(l)]
		for j := len(l); j < len(whole); j++ {
			whole[j] = num(77)
		}
		for j, other := range lists {
			if i != j && slices.ContainsFunc(other, func(e sums.Expr) bool { return e.Num == 77 }) {
				t.Errorf("list %d reaches into list %d", i, j)
			}
		}
	}
	again, _, _ := sums.Parse("1+2*x?y=3:-4")
	if !same(e, again) {
		t.Error(told(e))
	}
}
