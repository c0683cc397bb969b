package reals_test

import (
	"math"
	"math/rand/v2"
	"slices"
	"strings"
	"testing"

	"whelk/api"
	"whelk/reals"
)

func TestCalc_P4_4(t *testing.T) {
	for s, want := range map[string]string{
		"1": "0x1p+0", "0.1": "0x1.999999999999ap-4", "-0": "-0x0p+0", "nan": "nan", "-inf": "-inf", "-nan": "nan", "0x1.8p+1": "0x1.8p+1", "-0x0p+0": "-0x0p+0", "0x1p-1074": "0x1p-1074",
		"1 0 /": "inf", "0 0 /": "nan", "1 -0 /": "-inf", "nan nan =": "0x0p+0", "-0 0 =": "0x1p+0", "0 -0 min": "-0x0p+0", "-0 0 max": "0x0p+0",
		"1 2 +": "0x1.8p+1", "1 2 -": "-0x1p+0", "2 1 -": "0x1p+0", "3 2 *": "0x1.8p+2", "3 2 /": "0x1.8p+0", "2 3 /": "0x1.5555555555555p-1", "1 2 min": "0x1p+0", "1 2 max": "0x1p+1", "nan 1 min": "nan", "1 nan max": "nan",
		"1 2 3 + +": "0x1.8p+2", "1 2 + 3 +": "0x1.8p+2", "10 2 3 - -": "0x1.6p+3", "10 2 - 3 -": "0x1.4p+2", "8 4 2 / /": "0x1p+2",
		"1 neg": "-0x1p+0", "-1 neg": "0x1p+0", "0 neg": "-0x0p+0", "-0 neg": "0x0p+0", "inf neg": "-inf", "nan neg": "nan", "1 neg neg": "0x1p+0",
		"1 abs": "0x1p+0", "-1 abs": "0x1p+0", "-0 abs": "0x0p+0", "-inf abs": "inf", "nan abs": "nan", "-nan abs": "nan", "5 -3 abs -": "0x1p+1", "5 3 neg -": "0x1p+3",
		"1 2 <": "0x1p+0", "2 1 <": "0x0p+0", "1 1 <": "0x0p+0", "-0 0 <": "0x0p+0", "nan 1 <": "0x0p+0", "1 nan <": "0x0p+0", "-inf inf <": "0x1p+0",
		"1 1 =": "0x1p+0", "1 2 =": "0x0p+0", "2 1 =": "0x0p+0", "0.1 0.2 + 0.3 =": "0x0p+0", "inf inf =": "0x1p+0", "inf -inf =": "0x0p+0", "nan 1 =": "0x0p+0", "1 nan =": "0x0p+0",
		"5 1 2 < *": "0x1.4p+2", "0x1.8p+0 1.5 =": "0x1p+0", "0x1p+100 0x1p+100 *": "0x1p+200", "0x1.fffffffffffffp+1023 2 *": "inf",
	} {
		if got, e := reals.Calc(strings.Fields(s)...); got != want || e != api.OK {
			t.Errorf("Calc(%s) = %q, %v", s, got, e)
		}
	}
}

func TestCalcErrors_P4_4(t *testing.T) {
	for s, want := range map[string]api.Errno{
		"": api.ErrMore, "1 2": api.ErrMany, "1 2 3 +": api.ErrMany, "nan nan": api.ErrMany, "1 2 neg": api.ErrMany,
		"+": api.ErrMore, "1 +": api.ErrMore, "1 -": api.ErrMore, "1 *": api.ErrMore, "1 /": api.ErrMore, "1 min": api.ErrMore, "1 max": api.ErrMore, "1 <": api.ErrMore, "1 =": api.ErrMore, "<": api.ErrMore, "=": api.ErrMore, "neg": api.ErrMore, "abs": api.ErrMore,
		"1 2 + +": api.ErrMore, "1 neg +": api.ErrMore, "1 2 = =": api.ErrMore, "+ 1 2": api.ErrMore,
		"x": api.ErrNumber, "1 x": api.ErrNumber, "1 2 x": api.ErrNumber, "1e23": api.ErrNumber, "0x1": api.ErrNumber, "0x1.0p+0": api.ErrNumber, "1234567890123456": api.ErrNumber, "==": api.ErrNumber, ">": api.ErrNumber, "%": api.ErrNumber, "Neg": api.ErrNumber, "minn": api.ErrNumber, "+inf +infinity": api.ErrNumber,
		// Word by word: what goes wrong first is answered.
		"x +": api.ErrNumber, "+ x": api.ErrMore, "neg x": api.ErrMore, "1 + x": api.ErrMore, "1 x +": api.ErrNumber, "1 2 + x +": api.ErrNumber,
	} {
		if got, e := reals.Calc(strings.Fields(s)...); got != "" || e != want {
			t.Errorf("Calc(%s) = %q, %v", s, got, e)
		}
	}
	for _, w := range []string{"", " ", "1 ", " 1", "+ ", "1\n", "neg\x00", strings.Repeat("1", 1<<20)} {
		if got, e := reals.Calc(w); got != "" || e != api.ErrNumber {
			t.Errorf("Calc(%.40q) = %q, %v", w, got, e)
		}
		if got, e := reals.Calc("1", "2", w); got != "" || e != api.ErrNumber {
			t.Errorf("Calc(1, 2, %.40q) = %q, %v", w, got, e)
		}
	}
}

func TestCalcMany_P4_4(t *testing.T) {
	long := []string{"1"}
	for len(long) < 99 {
		long = append(long, "1", "+")
	}
	hundred := append(slices.Clone(long), "neg")
	if got, e := reals.Calc(hundred...); got != "-0x1.9p+5" || e != api.OK {
		t.Errorf("%q, %v", got, e)
	}
	for _, w := range []string{"neg", "1", "x", ""} {
		if got, e := reals.Calc(append(slices.Clone(hundred), w)...); got != "" || e != api.ErrMany {
			t.Errorf("101 words, the last one %q: %q, %v", w, got, e)
		}
	}
	// ErrMany of the words is named ahead of what the words say.
	for _, w := range []string{"+", "x", "1"} {
		for n, want := range map[int]bool{100: false, 101: true, 5000: true} {
			_, e := reals.Calc(slices.Repeat([]string{w}, n)...)
			if (e == api.ErrMany) != (want || w == "1") {
				t.Errorf("%d times %s: %v", n, w, e)
			}
		}
	}
}

// grown is a calculation's words, and its value worked out without them.
func grown(r *rand.Rand, depth int) ([]string, float64) {
	if depth == 0 || r.IntN(6) == 0 {
		leaves := []string{"0", "-0", "1", "-1", "2.5", "0.1", "-3e5", "7e-20", "inf", "-inf", "nan", "0x1.8p+1", "-0x1p-1074", "0x1.fffffffffffffp+1023"}
		w := leaves[r.IntN(len(leaves))]
		x, e := reals.Parse(w)
		if e != api.OK {
			x, _ = reals.Hex(w)
		}
		return []string{w}, x
	}
	l, x := grown(r, depth-1)
	switch r.IntN(6) {
	case 0:
		return append(l, "neg"), -x
	case 1:
		return append(l, "abs"), math.Abs(x)
	}
	m, y := grown(r, depth-1)
	all := append(ops, "<", "=")
	op := all[r.IntN(len(all))]
	l = append(append(l, m...), op)
	switch op {
	case "<", "=":
		if op == "<" && x < y || op == "=" && x == y {
			return l, 1
		}
		return l, 0
	}
	return l, done(op, x, y)
}

func TestCalcGrown_P4_4(t *testing.T) {
	r := rand.New(rand.NewPCG(4, 4))
	for range 50000 {
		l, x := grown(r, 4)
		if got, e := reals.Calc(l...); got != shown(x) || e != api.OK {
			t.Fatalf("Calc(%s) = %q, %v; not %s", strings.Join(l, " "), got, e, shown(x))
		}
	}
}

// R2: words that are handed in are not written into, nor is what stands behind them.
func TestWordsStay_R2(t *testing.T) {
	all := []string{"1", "2", "+", "neg", "3"}
	was := slices.Clone(all)
	if got, e := reals.Calc(all[:4]...); got != "-0x1.8p+1" || e != api.OK {
		t.Error(got, e)
	}
	if !slices.Equal(all, was) {
		t.Error(all)
	}
}

// R3: what Calc answers does not hang on the calls ahead of it.
func TestCallsApart_R3(t *testing.T) {
	for range 3 {
		reals.Calc("1", "2", "3")
		reals.Calc("1", "x")
		if got, e := reals.Calc("1", "+"); got != "" || e != api.ErrMore {
			t.Error(got, e)
		}
	}
}
