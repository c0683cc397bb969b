package sums_test

import (
	"math"
	"strings"
	"testing"

	"whelk/api"
	"whelk/sums"
)

func TestShow_P3_3(t *testing.T) {
	for want, e := range map[string]sums.Expr{
		"0": num(0), "8": num(8), "9223372036854775807": num(math.MaxInt64), "x": name("x"), "_A9": name("_A9"),
		"(-1)": op("neg", num(1)), "(+x)": op("pos", name("x")), "(!x)": op("not", name("x")), "(~0)": op("com", num(0)),
		"(-(-1))": op("neg", op("neg", num(1))), "(a?(-b):3)": op("?", name("a"), op("neg", name("b")), num(3)),
		"((1+2)*3)": op("*", op("+", num(1), num(2)), num(3)), "(x=(y+=2))": set("x", "=", set("y", "+=", num(2))),
		"(1?(x=2):(y?3:4))": op("?", num(1), set("x", "=", num(2)), op("?", name("y"), num(3), num(4))),
	} {
		if got, wrong := sums.Show(e); got != want || wrong != api.OK {
			t.Errorf("Show(%s) = %q, %v", told(e), got, wrong)
		}
	}
	for _, m := range twos {
		if got, wrong := sums.Show(op(m, name("a"), num(2))); got != "(a"+m+"2)" || wrong != api.OK {
			t.Error(m, got, wrong)
		}
	}
	for _, m := range sets {
		if got, wrong := sums.Show(set("a", m, num(2))); got != "(a"+m+"2)" || wrong != api.OK {
			t.Error(m, got, wrong)
		}
	}
	// What an Op does not have does not count.
	if got, wrong := sums.Show(sums.Expr{Op: "neg", Num: -1, Name: "9", Kids: []sums.Expr{{Op: "num", Name: "-"}}}); got != "(-0)" || wrong != api.OK {
		t.Error(got, wrong)
	}
}

func TestShowArg_P3_3(t *testing.T) {
	for _, e := range []sums.Expr{
		{}, op("no"), op("Num"), op("(", num(1)), op("!", num(1)), op("~", num(1)), op(":", num(1), num(2)), op(",", num(1), num(2)), op("==="), op("&&=", num(1)),
		num(-1), num(math.MinInt64), name(""), name("9"), name("1x"), name("a b"), name("x "), name("\xe9"), name("a-"),
		set("", "=", num(1)), set("1", "=", num(1)), set("a.", "+=", num(1)),
		op("num", num(1)), {Op: "name", Name: "x", Kids: []sums.Expr{num(1)}},
		op("neg"), op("neg", num(1), num(2)), op("-", num(1)), op("+"), op("*", num(1), num(2), num(3)), op("?", num(1), num(2)), op("?", num(1), num(2), num(3), num(4)),
		{Op: "=", Name: "x"}, {Op: "=", Name: "x", Kids: []sums.Expr{num(1), num(2)}},
	} {
		for _, x := range []sums.Expr{e, op("neg", e), op("+", num(1), e), op("?", num(1), num(2), e), set("x", "=", e)} {
			if got, wrong := sums.Show(x); got != "" || wrong != api.ErrArg {
				t.Errorf("Show(%s) = %q, %v", told(x), got, wrong)
			}
		}
	}
}

func TestShowDeep_P3_3(t *testing.T) {
	for n, want := range map[int]api.Errno{1: api.OK, 19: api.OK, 20: api.OK, 21: api.ErrDeep, 22: api.ErrDeep, 300: api.ErrDeep, 60000: api.ErrDeep} {
		if got, wrong := sums.Show(nested(n)); wrong != want || (got == "") != (want != api.OK) {
			t.Errorf("%d: %q, %v", n, got, wrong)
		}
		if _, wrong := sums.Show(op("?", num(1), num(2), set("x", "=", op("*", num(3), nested(n-3))))); n > 3 && wrong != want {
			t.Errorf("%d, of many kinds: %v", n, wrong)
		}
	}
	// ErrArg is named first, wherever it stands.
	deep := nested(50)
	for _, e := range []sums.Expr{op("+", deep, num(-1)), op("+", num(-1), deep), op("?", deep, deep, op("no"))} {
		if got, wrong := sums.Show(e); got != "" || wrong != api.ErrArg {
			t.Errorf("%q, %v", got, wrong)
		}
	}
	e := op("no")
	for range 100 {
		e = op("neg", e)
	}
	if got, wrong := sums.Show(e); got != "" || wrong != api.ErrArg {
		t.Errorf("%q, %v", got, wrong)
	}
}

func TestShowBig_P3_3(t *testing.T) {
	for n, want := range map[int]api.Errno{4095: api.OK, 4096: api.OK, 4097: api.ErrBig, 5000: api.ErrBig} {
		for _, e := range []sums.Expr{
			name(strings.Repeat("x", n)), op("neg", name(strings.Repeat("x", n-3))), op("<<", num(12), name(strings.Repeat("x", n-6))),
			set(strings.Repeat("x", n-6), "<<=", num(1)), op("?", num(1), name(strings.Repeat("y", n-6)), num(3)),
		} {
			got, wrong := sums.Show(e)
			if wrong != want || want == api.OK && len(got) != n || want != api.OK && got != "" {
				t.Errorf("%d: %d bytes, %v", n, len(got), wrong)
			}
		}
	}
	// ErrArg and ErrDeep are named first.
	long := name(strings.Repeat("x", 5000))
	if _, wrong := sums.Show(op("+", long, num(-1))); wrong != api.ErrArg {
		t.Error(wrong)
	}
	if _, wrong := sums.Show(op("+", long, nested(20))); wrong != api.ErrDeep {
		t.Error(wrong)
	}
	wide := num(1)
	for range 17 {
		wide = op("+", wide, wide)
	}
	if _, wrong := sums.Show(wide); wrong != api.ErrBig {
		t.Error(wrong)
	}
}

// R1: what has itself as a Kid ends, too.
func TestEndless_R1(t *testing.T) {
	for mark, n := range map[string]int{"neg": 1, "+": 2, "?": 3, "no": 1} {
		e := op(mark, make([]sums.Expr, n)...)
		for i := range e.Kids {
			e.Kids[i] = e
		}
		if got, wrong := sums.Show(e); got != "" || wrong != api.ErrDeep {
			t.Errorf("%s: %q, %v", mark, got, wrong)
		}
		if got, wrong := sums.Value(e, table()); got != 0 || wrong != api.ErrDeep {
			t.Errorf("%s: %d, %v", mark, got, wrong)
		}
	}
}

// leaves and grown make all expressions of few Ops.
func leaves() []sums.Expr { return []sums.Expr{num(0), num(10), name("x")} }

func grown(from []sums.Expr) []sums.Expr {
	out := leaves()
	for _, a := range from {
		for _, m := range []string{"neg", "pos", "not", "com"} {
			out = append(out, op(m, a))
		}
		for _, m := range sets {
			out = append(out, set("y", m, a))
		}
		for _, b := range from {
			for _, m := range twos {
				out = append(out, op(m, a, b))
			}
		}
		out = append(out, op("?", a, name("z"), num(1)), op("?", name("z"), a, num(1)), op("?", name("z"), num(1), a))
	}
	return out
}

func TestShownIsParsed_P3_5(t *testing.T) {
	check := func(e sums.Expr) {
		s, wrong := sums.Show(e)
		if wrong != api.OK {
			t.Fatalf("Show(%s): %v", told(e), wrong)
		}
		if got, at, wrong := sums.Parse(s); !same(got, e) || at != 0 || wrong != api.OK {
			t.Fatalf("Parse(%q) = %s, %d, %v", s, told(got), at, wrong)
		}
	}
	for _, e := range grown(grown(leaves())) {
		check(e)
	}
	// The deepest that is shown is parsed, too, of whatever Ops it is.
	for i := range 6 {
		e := name("x")
		for range 19 {
			e = []sums.Expr{op("neg", e), set("x", ">>=", e), op("?", num(1), num(2), e), op("?", num(1), e, num(2)), op("?", e, num(1), num(2)), op("-", num(1), e)}[i]
		}
		check(e)
	}
}
