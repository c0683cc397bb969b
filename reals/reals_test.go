package reals_test

import (
	"cmp"
	"math"
	"math/big"
	"math/rand/v2"
	"strconv"
	"testing"

	"whelk/api"
	"whelk/reals"
)

const (
	tiny   = math.SmallestNonzeroFloat64
	normal = 0x1p-1022 // the least that is not told by fewer bits
	great  = math.MaxFloat64
)

var (
	inf   = math.Inf(1)
	minus = math.Copysign(0, -1) // -0
)

// rising is edges, each less than the one behind it by Total; nan is not among them.
func rising() []float64 {
	return []float64{
		-inf, -great, -1e300, -0x1p63, -1e15, -3, -math.Nextafter(1, 2), -1, -0.1, -normal, -math.Nextafter(normal, 0), -2 * tiny, -tiny,
		minus, 0, tiny, 2 * tiny, math.Nextafter(normal, 0), normal, 0.1, math.Nextafter(1, 0), 1, math.Nextafter(1, 2), 1.5, 2, 3, 7, 1e15, 0x1p53, 0x1p63, 1e300, great, inf,
	}
}

// nans is nans of several bits, with the bit of the sign and without it.
func nans() []float64 {
	var out []float64
	for _, b := range []uint64{0x7ff8000000000001, 0x7ff8000000000000, 0xfff8000000000000, 0x7ff0000000000001, 0xffffffffffffffff, 0xfff0000000000123} {
		out = append(out, math.Float64frombits(b))
	}
	return out
}

// edges is all of these.
func edges() []float64 { return append(rising(), nans()...) }

// anyReals is reals out of any bits, many of them near one another.
func anyReals(n int) []float64 {
	r := rand.New(rand.NewPCG(4, 19))
	out := edges()
	for len(out) < n {
		x := math.Float64frombits(r.Uint64())
		out = append(out, x, math.Nextafter(x, 0), -x, math.Float64frombits(r.Uint64()>>(r.UintN(52)+1)), float64(r.IntN(1<<20)-1<<19)/16)
	}
	return out
}

// same is whether two are one real: -0 is not 0, nan is nan.
func same(x, y float64) bool {
	return x != x && y != y || math.Float64bits(x) == math.Float64bits(y)
}

// told is a real in another way than Show's.
func told(x float64) string {
	return strconv.FormatFloat(x, 'g', -1, 64) + " of bits " + strconv.FormatUint(math.Float64bits(x), 16)
}

func TestMinus_P4_2(t *testing.T) {
	for _, x := range rising() {
		if got, want := reals.Minus(x), x < 0 || x == 0 && 1/x < 0; got != want {
			t.Error(told(x), got)
		}
	}
	for _, x := range nans() {
		if reals.Minus(x) {
			t.Error(told(x))
		}
	}
}

func TestOrder_P4_2(t *testing.T) {
	l := rising()
	for i, x := range l {
		for j, y := range l {
			want := cmp.Compare(i, j)
			if x == 0 && y == 0 {
				want = 0
			}
			if got := reals.Order(x, y); got != want {
				t.Error(told(x), told(y), got)
			}
		}
	}
	for _, x := range nans() {
		for _, y := range edges() {
			if a, b := reals.Order(x, y), reals.Order(y, x); a != 2 || b != 2 {
				t.Error(told(x), told(y), a, b)
			}
		}
	}
}

func TestTotal_P4_2(t *testing.T) {
	l := append(rising(), math.NaN())
	for i, x := range l {
		for j, y := range l {
			if got := reals.Total(x, y); got != cmp.Compare(i, j) {
				t.Error(told(x), told(y), got)
			}
		}
	}
	for _, x := range nans() {
		for _, y := range nans() {
			if got := reals.Total(x, y); got != 0 {
				t.Error(told(x), told(y), got)
			}
		}
		for _, y := range rising() {
			if a, b := reals.Total(x, y), reals.Total(y, x); a != 1 || b != -1 {
				t.Error(told(x), told(y), a, b)
			}
		}
	}
}

// rat is a number that is not inf, to the last bit.
func rat(x float64) *big.Rat { return new(big.Rat).SetFloat64(x) }

// nearest is the real that is nearest to a number which is not 0; inf, if it is too great.
func nearest(r *big.Rat) float64 {
	x, _ := r.Float64()
	return x
}

// signed is a size with the sign that a product or quotient of x and y has.
func signed(size, x, y float64) float64 {
	if math.Signbit(x) != math.Signbit(y) {
		return -size
	}
	return size
}

func isInf(x float64) bool { return math.IsInf(x, 0) }

// sum is x and y together by numbers without bounds.
func sum(x, y float64) float64 {
	switch {
	case isInf(x) && isInf(y) && x != y:
		return math.NaN()
	case isInf(x):
		return x
	case isInf(y):
		return y
	}
	r := new(big.Rat).Add(rat(x), rat(y))
	switch {
	case r.Sign() != 0:
		return nearest(r)
	case math.Signbit(x) && math.Signbit(y):
		return minus
	}
	return 0
}

// product is x times y by numbers without bounds.
func product(x, y float64) float64 {
	switch {
	case isInf(x) && y == 0 || x == 0 && isInf(y):
		return math.NaN()
	case isInf(x) || isInf(y):
		return signed(inf, x, y)
	case x == 0 || y == 0:
		return signed(0, x, y)
	}
	return nearest(new(big.Rat).Mul(rat(x), rat(y)))
}

// quotient is x through y by numbers without bounds.
func quotient(x, y float64) float64 {
	switch {
	case isInf(x) && isInf(y) || x == 0 && y == 0:
		return math.NaN()
	case isInf(x) || y == 0:
		return signed(inf, x, y)
	case isInf(y) || x == 0:
		return signed(0, x, y)
	}
	return nearest(new(big.Rat).Quo(rat(x), rat(y)))
}

// first is the one of both that Total says is less (or greater, by a sign of 1).
func first(x, y float64, sign int) float64 {
	if reals.Total(x, y) == sign {
		return x
	}
	return y
}

// done is what an op makes of two, worked out in another way.
func done(op string, x, y float64) float64 {
	if x != x || y != y {
		return math.NaN()
	}
	switch op {
	case "+":
		return sum(x, y)
	case "-":
		return sum(x, -y)
	case "*":
		return product(x, y)
	case "/":
		return quotient(x, y)
	case "min":
		return first(x, y, -1)
	}
	return first(x, y, 1)
}

var ops = []string{"+", "-", "*", "/", "min", "max"}

func TestDo_P4_3(t *testing.T) {
	check := func(op string, x, y float64) {
		t.Helper()
		if got, e := reals.Do(op, x, y); !same(got, done(op, x, y)) || e != api.OK {
			t.Errorf("%s %s %s: %s, %v", told(x), op, told(y), told(got), e)
		}
	}
	for _, op := range ops {
		for _, x := range edges() {
			for _, y := range edges() {
				check(op, x, y)
			}
		}
		l := anyReals(4000)
		for i := range l {
			check(op, l[i], l[(i+1)%len(l)])
			check(op, l[i], l[len(l)-1-i])
		}
	}
}

func TestDoByHand_P4_3(t *testing.T) {
	nan := math.NaN()
	for _, c := range []struct {
		op         string
		x, y, want float64
	}{
		{"+", 1, 2, 3}, {"+", 0.1, 0.2, 0.30000000000000004}, {"+", 0x1p53, 1, 0x1p53}, {"+", 0x1p53, 3, 0x1p53 + 4}, {"+", great, great, inf}, {"+", inf, -inf, nan}, {"+", minus, minus, minus}, {"+", minus, 0, 0},
		{"-", 1, 2, -1}, {"-", 2, 2, 0}, {"-", minus, 0, minus}, {"-", inf, inf, nan}, {"-", normal, math.Nextafter(normal, 0), tiny},
		{"*", 3, -2, -6}, {"*", -1, 0, minus}, {"*", 0, inf, nan}, {"*", tiny, 0.5, 0}, {"*", tiny, 0.75, tiny}, {"*", -tiny, 0.5, minus}, {"*", great, 2, inf},
		{"/", 1, 2, 0.5}, {"/", 1, 3, 0.3333333333333333}, {"/", 1, 0, inf}, {"/", 1, minus, -inf}, {"/", -1, 0, -inf}, {"/", 0, 0, nan}, {"/", 0, -5, minus}, {"/", inf, inf, nan}, {"/", 1, -inf, minus},
		{"min", 1, 2, 1}, {"min", 2, 1, 1}, {"min", 0, minus, minus}, {"min", minus, 0, minus}, {"min", nan, 1, nan}, {"min", -inf, nan, nan}, {"min", inf, 5, 5},
		{"max", 1, 2, 2}, {"max", 2, 1, 2}, {"max", 0, minus, 0}, {"max", minus, 0, 0}, {"max", nan, inf, nan}, {"max", 1, nan, nan}, {"max", -inf, -5, -5},
	} {
		if got, e := reals.Do(c.op, c.x, c.y); !same(got, c.want) || e != api.OK {
			t.Errorf("%s %s %s: %s, %v", told(c.x), c.op, told(c.y), told(got), e)
		}
	}
}

func TestDoArg_P4_3(t *testing.T) {
	for _, op := range []string{"", " ", "++", "+ ", " +", "%", "**", "//", "min ", "Min", "MAX", "mi", "maxx", "neg", "abs", "<", "=", "==", "1", "nan", "\x00", "+\x00"} {
		for _, x := range edges() {
			if got, e := reals.Do(op, x, 1); !same(got, 0) || e != api.ErrArg {
				t.Errorf("%q: %s, %v", op, told(got), e)
			}
		}
	}
}

func TestWhole_P4_3(t *testing.T) {
	for x, want := range map[float64]int64{
		0: 0, 1: 1, -1: -1, 1e15: 1e15, -1e15: -1e15, 0x1p53: 1 << 53, 0x1p62: 1 << 62, 0x1p53 + 2: 1<<53 + 2,
		-0x1p63: math.MinInt64, math.Nextafter(0x1p63, 0): math.MaxInt64 - 1023, math.Nextafter(-0x1p63, 0): math.MinInt64 + 1024,
	} {
		if got, e := reals.Whole(x); got != want || e != api.OK {
			t.Error(told(x), got, e)
		}
	}
	if got, e := reals.Whole(minus); got != 0 || e != api.OK {
		t.Error("-0:", got, e)
	}
	wrong := append(nans(), inf, -inf, 0x1p63, math.Nextafter(0x1p63, inf), math.Nextafter(-0x1p63, -inf), great, -great, 1e19, -1e19, 0x1p64,
		0.5, -0.5, tiny, -tiny, normal, 1.5, math.Nextafter(1, 0), math.Nextafter(1, 2), -math.Nextafter(1, 2), 0x1p51+0.5, 0x1p52-0.5, -(0x1p52 - 0.5))
	for _, x := range wrong {
		if got, e := reals.Whole(x); got != 0 || e != api.ErrNumber {
			t.Error(told(x), got, e)
		}
	}
}

func TestWholeOfAny_P4_3(t *testing.T) {
	low, high := big.NewInt(math.MinInt64), big.NewInt(math.MaxInt64)
	for _, x := range anyReals(20000) {
		if x != x || isInf(x) {
			continue
		}
		r := rat(x)
		whole := r.IsInt() && r.Num().Cmp(low) >= 0 && r.Num().Cmp(high) <= 0
		got, e := reals.Whole(x)
		if whole && (e != api.OK || r.Num().Int64() != got) || !whole && (e != api.ErrNumber || got != 0) {
			t.Fatal(told(x), got, e)
		}
	}
}

func TestSumsAndProductsTurned_P4_5(t *testing.T) {
	l := anyReals(300)
	for _, x := range l {
		for _, y := range l {
			for _, op := range []string{"+", "*"} {
				a, _ := reals.Do(op, x, y)
				if b, _ := reals.Do(op, y, x); !same(a, b) {
					t.Error(op, told(x), told(y))
				}
			}
			a, _ := reals.Do("-", x, y)
			b, _ := reals.Do("-", y, x)
			if a == 0 && b == 0 {
				continue
			}
			if !same(a, -b) || a == a && reals.Minus(a) == reals.Minus(b) {
				t.Error("-", told(x), told(y), told(a), told(b))
			}
		}
	}
}

func TestNothingAndNan_P4_5(t *testing.T) {
	if x, e := reals.Do("/", 1, 0); x != inf || e != api.OK {
		t.Error(told(x), e)
	}
	if x, e := reals.Do("/", 1, minus); x != -inf || e != api.OK {
		t.Error(told(x), e)
	}
	for _, x := range nans() {
		for _, y := range edges() {
			for _, o := range []int{reals.Order(x, y), reals.Order(y, x), reals.Order(x, x)} {
				if o == -1 || o == 0 {
					t.Error(told(x), told(y), o)
				}
			}
		}
	}
}

// R3: nan is one thing, whatever its bits: what is answered does not hang on the machine, nor on which nan came.
func TestOneNan_R3(t *testing.T) {
	one, _ := reals.Parse("nan")
	check := func(x float64, by string) {
		if x != x && math.Float64bits(x) != math.Float64bits(one) {
			t.Error(by, told(x))
		}
	}
	for _, s := range []string{"nan", "+nan", "-nan"} {
		x, _ := reals.Parse(s)
		check(x, s)
	}
	x, _ := reals.Hex("nan")
	check(x, "Hex")
	for _, op := range ops {
		for _, x := range edges() {
			for _, y := range edges() {
				z, _ := reals.Do(op, x, y)
				check(z, op)
			}
		}
	}
}
