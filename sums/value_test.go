package sums_test

import (
	"math"
	"slices"
	"strings"
	"testing"

	"whelk/api"
	"whelk/sums"
)

// valued is the value of a text that is an expression.
func valued(t *testing.T, s string, store sums.Store) (int64, api.Errno) {
	t.Helper()
	e, at, wrong := sums.Parse(s)
	if wrong != api.OK {
		t.Fatalf("Parse(%q): %v at %d", s, wrong, at)
	}
	return sums.Value(e, store)
}

func TestValue_P3_4(t *testing.T) {
	for s, want := range map[string]int64{
		"": 0, " \t": 0, "1+2*3": 7, "(1+2)*3": 9, "-7/2": -3, "7/-2": -3, "-7/-2": 3, "7%-2": 1, "-7%2": -1, "-7%-2": -1,
		"10-2-3": 5, "100/10/2": 5, "2*3%4": 2, "1-2+3": 2,
		"- -5": 5, "--5": 5, "+-+5": -5, "!0": 1, "!7": 0, "!!7": 1, "~0": -1, "~5": -6, "-~5": 6, "!-1": 0, "-2*-3": 6, "2- -3": 5, "2--3": 5,
		"1<<3": 8, "1<<65": 2, "1<<64": 1, "1<<63": math.MinInt64, "1<<-1": math.MinInt64, "-8>>1": -4, "-1>>63": -1, "-1>>70": -1, "8>>64": 8, "7>>1": 3, "-7>>1": -4, "1<<2<<3": 32, "64>>2>>1": 8, "1<<1+1": 4,
		"1<2": 1, "2<2": 0, "2<=2": 1, "3<=2": 0, "3>2": 1, "2>2": 0, "2>=2": 1, "1>=2": 0, "3>2>1": 0, "-1<1": 1, "1==1": 1, "1==2": 0, "1!=2": 1, "1!=1": 0, "2>1==1": 1, "1==2<3": 1,
		"6&3": 2, "6^3": 5, "6|3": 7, "1|2^3&4": 3, "-1&255": 255, "1&3==3": 1, "4|2&1": 4, "7^5|2": 2,
		"2&&3": 1, "2&&0": 0, "0&&1": 0, "0||0": 0, "0||5": 1, "1||0": 1, "1||0&&0": 1, "0&&0||1": 1,
		"1?2:3": 2, "0?2:3": 3, "-1?2:3": 2, "0?1:0?2:3": 3, "1?0?4:5:6": 5, "0||1?2:3": 2, "1?2:3||0": 2, "(1?2:3)+4": 6, "1?2:3+4": 2, "0?2:3+4": 7,
		"9223372036854775807+1": math.MinInt64, "-9223372036854775807-2": math.MaxInt64, "9223372036854775807*2": -2, "4294967296*4294967296": 0,
		"(-9223372036854775807-1)/-1": math.MinInt64, "(-9223372036854775807-1)%-1": 0, "-(-9223372036854775807-1)": math.MinInt64, "0x7fffffffffffffff<<1": -2,
		"010+0x10": 24, "0X1F": 31, "x": 0,
	} {
		if got, e := valued(t, s, table()); got != want || e != api.OK {
			t.Errorf("%q: %d, %v", s, got, e)
		}
	}
}

func TestValueOfNames_P3_4(t *testing.T) {
	store := table("a", "5", "b", " -0x10\n", "empty", "", "bad", "5x", "min", "-9223372036854775808", "m", "08", "A", "1")
	for s, want := range map[string]int64{"a": 5, "b": -16, "empty": 0, "none": 0, "min": math.MinInt64, "-min": math.MinInt64, "a*A": 5, "a-b": 21, "0?bad:a": 5, "1||bad": 1, "0&&bad": 0} {
		if got, e := valued(t, s, store); got != want || e != api.OK {
			t.Errorf("%q: %d, %v", s, got, e)
		}
	}
	for _, s := range []string{"bad", "m", "bad+1", "1+bad", "bad?1:2", "1?bad:1", "-bad", "bad+=1", "x=bad", "0||bad", "bad/0", "1/0*bad+bad"} {
		want := api.ErrNumber
		if strings.HasPrefix(s, "1/0") {
			want = api.ErrZero
		}
		if got, e := valued(t, s, store); got != 0 || e != want {
			t.Errorf("%q: %d, %v", s, got, e)
		}
	}
	if len(store.Pairs) != 7 {
		t.Error(store.Pairs)
	}
}

func TestAssign_P3_4(t *testing.T) {
	for _, x := range []struct {
		s    string
		want int64
		x, y string
	}{
		{"x=1", 1, "1", "5"}, {"x=y+=2", 7, "7", "7"}, {"x=-y", -5, "-5", "5"}, {"x=y=0x10", 16, "16", "16"},
		{"y*=2+1", 15, "", "15"}, {"y/=2", 2, "", "2"}, {"y%=3", 2, "", "2"}, {"y+=1", 6, "", "6"}, {"y-=1", 4, "", "4"},
		{"y<<=65", 10, "", "10"}, {"y>>=1", 2, "", "2"}, {"y&=4", 4, "", "4"}, {"y^=1", 4, "", "4"}, {"y|=2", 7, "", "7"},
		{"x+=3", 3, "3", "5"}, {"y+=(y=1)", 6, "", "6"}, {"(y=1)+y", 2, "", "1"}, {"y+(y=1)", 6, "", "1"}, {"y-=y-=y", 5, "", "5"},
		{"1||(x=1)", 1, "", "5"}, {"0&&(x=1)", 0, "", "5"}, {"0||(x=1)", 1, "1", "5"}, {"1&&(x=0)", 0, "0", "5"},
		{"1?(x=2):(y=3)", 2, "2", "5"}, {"0?x=2:(y=3)", 3, "", "3"}, {"1?x=2:y", 2, "2", "5"}, {"x=0?1:2", 2, "2", "5"},
		{"x=9223372036854775807+1", math.MinInt64, "-9223372036854775808", "5"},
	} {
		store := table("y", "5")
		if got, e := valued(t, x.s, store); got != x.want || e != api.OK {
			t.Errorf("%q: %d, %v", x.s, got, e)
		}
		gotX, _ := store.Get("x")
		gotY, _ := store.Get("y")
		if gotX != x.x || gotY != x.y {
			t.Errorf("%q: x is %q, y is %q", x.s, gotX, gotY)
		}
	}
}

func TestValueErrors_P3_4(t *testing.T) {
	fixed := func() *sums.Table {
		return &sums.Table{Pairs: []sums.Pair{{Name: "x", Value: "1"}, {Name: "f", Value: "2", Fixed: true}, {Name: "bad", Value: "?"}}}
	}
	for _, c := range []struct {
		s    string
		want api.Errno
		x    string
	}{
		{"1/0", api.ErrZero, "1"}, {"1%0", api.ErrZero, "1"}, {"x/=0", api.ErrZero, "1"}, {"x%=0", api.ErrZero, "1"}, {"0/0", api.ErrZero, "1"},
		{"f=1", api.ErrRead, "1"}, {"f+=1", api.ErrRead, "1"}, {"f/=0", api.ErrZero, "1"}, {"f=1/0", api.ErrZero, "1"},
		{"(x=5)/0", api.ErrZero, "5"}, {"(x=5)+(f=1)+(x=6)", api.ErrRead, "5"}, {"(x=5)+bad+(x=6)", api.ErrNumber, "5"}, {"bad=1/0", api.ErrZero, "1"},
		{"bad+=(x=7)", api.ErrNumber, "1"}, {"f=x=7", api.ErrRead, "7"}, {"x=f=7", api.ErrRead, "1"}, {"x=bad", api.ErrNumber, "1"}, {"1/(x=0)", api.ErrZero, "0"},
	} {
		store := fixed()
		if got, e := valued(t, c.s, store); got != 0 || e != c.want {
			t.Errorf("%q: %d, %v", c.s, got, e)
		}
		if got, _ := store.Get("x"); got != c.x {
			t.Errorf("%q: x is %q", c.s, got)
		}
	}
	// What is set anew needs no number ahead of it.
	store := fixed()
	if got, e := valued(t, "bad=3", store); got != 3 || e != api.OK {
		t.Error(got, e)
	}
}

func TestValueArg_P3_4(t *testing.T) {
	x2 := set("x", "=", num(2))
	for _, c := range []struct {
		e    sums.Expr
		want api.Errno
		x    string
	}{
		{sums.Expr{}, api.ErrArg, ""}, {op("no"), api.ErrArg, ""}, {op("!", x2), api.ErrArg, ""}, {op("(", x2), api.ErrArg, ""}, {op(":", x2, x2), api.ErrArg, ""},
		{op("num", x2), api.ErrArg, ""}, {sums.Expr{Op: "name", Name: "x", Kids: []sums.Expr{x2}}, api.ErrArg, ""},
		{op("neg"), api.ErrArg, ""}, {op("neg", x2, x2), api.ErrArg, ""}, {op("+", x2), api.ErrArg, ""}, {op("&&", x2), api.ErrArg, ""}, {op("||", x2, num(1), num(1)), api.ErrArg, ""},
		{op("?", x2, x2), api.ErrArg, ""}, {op("?", x2, x2, x2, x2), api.ErrArg, ""}, {sums.Expr{Op: "=", Name: "x"}, api.ErrArg, ""},
		// From the left on: what stands ahead is done, what is not needed does not count.
		{op("+", x2, op("no")), api.ErrArg, "2"}, {op("+", op("no"), x2), api.ErrArg, ""}, {op("/", op("/", num(1), num(0)), op("no")), api.ErrZero, ""},
		{op("&&", num(0), op("no")), api.OK, ""}, {op("||", num(1), op("no")), api.OK, ""}, {op("?", num(1), x2, op("no")), api.OK, "2"}, {op("?", num(0), op("no"), x2), api.OK, "2"},
		{op("&&", num(1), op("no")), api.ErrArg, ""}, {op("||", num(0), op("no")), api.ErrArg, ""}, {op("?", x2, op("no"), num(1)), api.ErrArg, "2"},
		// A Num and a Name may be any here.
		{set("x", "=", num(-5)), api.OK, "-5"}, {set("1", "=", op("+", name("-"), num(math.MinInt64))), api.OK, ""},
	} {
		store := table()
		got, e := sums.Value(c.e, store)
		if e != c.want || e != api.OK && got != 0 {
			t.Errorf("%s: %d, %v", told(c.e), got, e)
		}
		if x, _ := store.Get("x"); x != c.x {
			t.Errorf("%s: x is %q", told(c.e), x)
		}
	}
}

func TestValueDeep_P3_4(t *testing.T) {
	for n, want := range map[int]api.Errno{1: api.OK, 199: api.OK, 200: api.OK, 201: api.ErrDeep, 65000: api.ErrDeep} {
		if _, e := sums.Value(nested(n), table()); e != want {
			t.Errorf("%d: %v", n, e)
		}
		// Also in what is not needed; nothing is set then.
		store := table()
		if _, e := sums.Value(op("||", set("x", "=", num(1)), nested(n-1)), store); n > 1 && e != want {
			t.Errorf("%d, not needed: %v", n, e)
		}
		if _, ok := store.Get("x"); n > 1 && ok != (want == api.OK) {
			t.Errorf("%d: x is set: %v", n, ok)
		}
	}
	if _, e := valued(t, strings.Repeat("1+", 199)+"1", table()); e != api.OK {
		t.Error(e)
	}
	if _, e := valued(t, strings.Repeat("1+", 200)+"1", table()); e != api.ErrDeep {
		t.Error(e)
	}
	// ErrDeep is named ahead of ErrArg.
	if _, e := sums.Value(op("no", nested(200)), table()); e != api.ErrDeep {
		t.Error(e)
	}
}

func TestValueNil_P3_4(t *testing.T) {
	for _, e := range []sums.Expr{num(1), op("no"), nested(300), {}} {
		if got, wrong := sums.Value(e, nil); got != 0 || wrong != api.ErrNil {
			t.Errorf("%d, %v", got, wrong)
		}
	}
	var none *sums.Table
	if got, wrong := sums.Value(op("+", name("x"), num(2)), none); got != 2 || wrong != api.OK {
		t.Error(got, wrong)
	}
	if got, wrong := sums.Value(set("x", "=", num(1)), none); got != 0 || wrong != api.ErrNil {
		t.Error(got, wrong)
	}
}

// noted is a store that notes what it is asked, and refuses a name.
type noted struct {
	asked   []string
	refused string
	wrong   api.Errno
}

func (n *noted) Get(name string) (string, bool) {
	n.asked = append(n.asked, "get "+name)
	return "3", name != "none"
}

func (n *noted) Set(name, value string) api.Errno {
	n.asked = append(n.asked, "set "+name+" "+value)
	if name == n.refused {
		return n.wrong
	}
	return api.OK
}

func TestStoreIsAsked_P3_4(t *testing.T) {
	for s, want := range map[string]string{
		"a+b*c": "get a,get b,get c", "a=b": "get b,set a 3", "a+=b": "get a,get b,set a 6", "a=b-=c": "get b,get c,set b 0,set a 0",
		"a&&b||c": "get a,get b", "none||b": "get none,get b", "none?a:b": "get none,get b", "a?b:c": "get a,get b", "a<<=none": "get a,get none,set a 3", "none=2": "set none 2", "none-=2": "get none,set none -2",
	} {
		n := &noted{}
		if _, e := valued(t, s, n); e != api.OK || strings.Join(n.asked, ",") != want {
			t.Errorf("%q: %v, %q", s, e, n.asked)
		}
	}
	for _, wrong := range []api.Errno{api.ErrRead, api.ErrBig, api.ErrWrite, api.ErrName} {
		n := &noted{refused: "b", wrong: wrong}
		if got, e := valued(t, "(a=1)+(b=2)+(c=3)", n); got != 0 || e != wrong || !slices.Equal(n.asked, []string{"set a 1", "set b 2"}) {
			t.Errorf("%d, %v, %q", got, e, n.asked)
		}
	}
}

// broken is a store around nothing.
type broken struct{ table *map[string]string }

func (b *broken) Get(name string) (string, bool) { v, ok := (*b.table)[name]; return v, ok }
func (b *broken) Set(name, value string) api.Errno {
	(*b.table)[name] = value
	return api.OK
}

// R1: a store that panics lets no call panic.
func TestStorePanics_R1(t *testing.T) {
	for _, store := range []sums.Store{(*broken)(nil), &broken{}} {
		for _, s := range []string{"x", "1+x", "x=1", "x+=1"} {
			if got, e := valued(t, s, store); got != 0 || e != api.ErrNil {
				t.Errorf("%q: %d, %v", s, got, e)
			}
		}
		if got, e := valued(t, "1+2", store); got != 3 || e != api.OK {
			t.Error(got, e)
		}
	}
}

func TestOrderDoesNotCount_P3_5(t *testing.T) {
	edges := []int64{0, 1, -1, 2, -2, 7, 10, 1 << 31, -1 << 31, 1<<32 + 1, 3037000500, math.MaxInt64, math.MaxInt64 - 1, math.MinInt64, math.MinInt64 + 1}
	of := func(e sums.Expr) int64 {
		got, wrong := sums.Value(e, table())
		if wrong != api.OK {
			t.Fatal(told(e), wrong)
		}
		return got
	}
	for _, m := range []string{"+", "*"} {
		for _, a := range edges {
			for _, b := range edges {
				if of(op(m, num(a), num(b))) != of(op(m, num(b), num(a))) {
					t.Error(m, a, b)
				}
				for _, c := range edges {
					if of(op(m, op(m, num(a), num(b)), num(c))) != of(op(m, num(a), op(m, num(b), num(c)))) {
						t.Error(m, a, b, c)
					}
				}
			}
		}
	}
}

func TestWhatIsNotNeeded_P3_5(t *testing.T) {
	for _, e := range []sums.Expr{
		op("&&", num(0), set("x", "=", num(1))), op("||", num(5), set("x", "=", num(1))),
		op("?", num(0), set("x", "=", num(1)), num(2)), op("?", num(9), num(2), set("x", "=", num(1))),
		op("&&", op("||", num(0), num(0)), op("/", set("x", "=", num(1)), num(0))),
	} {
		store := table()
		if _, wrong := sums.Value(e, store); wrong != api.OK || len(store.Pairs) != 0 {
			t.Errorf("%s: %v, %v", told(e), wrong, store.Pairs)
		}
	}
}
