package reals_test

import (
	"math"
	"math/big"
	"math/bits"
	"math/rand/v2"
	"regexp"
	"strconv"
	"strings"
	"testing"

	"whelk/api"
	"whelk/reals"
)

// rows calls do with all texts of up to most bytes out of alphabet.
func rows(alphabet string, most int, do func(s string)) {
	var grow func(s string)
	grow = func(s string) {
		do(s)
		if len(s) == most {
			return
		}
		for i := range len(alphabet) {
			grow(s + alphabet[i:i+1])
		}
	}
	grow("")
}

var decimal = regexp.MustCompile(`^([+-]?)(?:(inf|nan)|([0-9]*)(?:\.([0-9]*))?(?:e([+-]?[0-9]{1,2}))?)$`)

// parsed is what Parse is to answer, read in another way: by a form, and by numbers without bounds.
func parsed(s string) (float64, api.Errno) {
	m := decimal.FindStringSubmatch(s)
	if m == nil {
		return 0, api.ErrNumber
	}
	sign := 1.0
	if m[1] == "-" {
		sign = -1
	}
	switch m[2] {
	case "inf":
		return math.Inf(int(sign)), api.OK
	case "nan":
		return math.NaN(), api.OK
	}
	digits := m[3] + m[4]
	power, _ := strconv.Atoi("0" + strings.TrimLeft(m[5], "+-"))
	if strings.HasPrefix(m[5], "-") {
		power = -power
	}
	power -= len(m[4])
	if len(digits) < 1 || len(digits) > 15 || power < -22 || power > 22 {
		return 0, api.ErrNumber
	}
	r, _ := new(big.Rat).SetString(digits)
	ten := new(big.Rat).SetInt(new(big.Int).Exp(big.NewInt(10), big.NewInt(int64(max(power, -power))), nil))
	if power < 0 {
		r.Quo(r, ten)
	} else {
		r.Mul(r, ten)
	}
	return math.Copysign(nearest(r), sign), api.OK
}

func checkParse(t *testing.T, s string) {
	t.Helper()
	want, e := parsed(s)
	if got, f := reals.Parse(s); !same(got, want) || f != e {
		t.Fatalf("Parse(%q) = %s, %v; not %s, %v", s, told(got), f, told(want), e)
	}
}

func TestParse_P4_1(t *testing.T) {
	for s, want := range map[string]float64{
		"0": 0, "+0": 0, "-0": minus, "00.00": 0, "-000": minus, "-0.0e5": minus, "0e22": 0, "0e-22": 0, "-0e+00": minus,
		"1": 1, "+1": 1, "-1": -1, "007": 7, "1.5": 1.5, "-2.5e3": -2500, "2.5e+03": 2500, "1e0": 1, "1e-0": 1, "12e1": 120, "12e-1": 1.2, "12.75": 12.75,
		"0.1": 0.1, "0.2": 0.2, "0.3": 0.3, "3.14159265358979": 3.14159265358979, "1e22": 1e22, "1e-22": 1e-22, "10e22": 1e23, "999999999999999e22": 999999999999999e22, "000000000000001e-22": 1e-22,
		"999999999999999": 999999999999999, "0.00000000000001": 1e-14, "123456789012345e-22": 123456789012345e-22,
		"5.": 5, ".5": 0.5, "-.5e1": -5, "+5.e-1": 0.5,
		"1.5e23": 1.5e23, "1.25e24": 1.25e24, "0.00000000000001e36": 1e22, "1.5e-21": 1.5e-21, "0.1e-21": 1e-22, "1.5e-2": 0.015,
		"inf": inf, "+inf": inf, "-inf": -inf, "nan": math.NaN(), "+nan": math.NaN(), "-nan": math.NaN(),
	} {
		if got, e := reals.Parse(s); !same(got, want) || e != api.OK {
			t.Errorf("Parse(%q) = %s, %v", s, told(got), e)
		}
		checkParse(t, s)
	}
}

func TestParseErrors_P4_1(t *testing.T) {
	for _, s := range []string{
		"", "+", "-", ".", "+.", "-.", "e", "e1", ".e1", "+e1", "1.5.2", "1..2", "..1", "1.e", "1e", "1e+", "1e-", "1e1e1", "1e1.", "1e.1", "1e001", "1e100", "1e+100", "1e--1", "1e+-1", "1e 1",
		"--1", "++1", "+-1", "-+1", "1-", "1+1", " 1", "1 ", "1\n", "\t1", "1 2", "- 1", "1\x00", "\x001", "１", "1\x80",
		"1E5", "1d5", "0x1p+0", "0x10", "1_0", "1,5", "1f", "a", "x",
		"Inf", "INF", "infinity", "NaN", "NAN", "in", "na", "inff", "nann", "inf.", "inf0", "0inf", "infe1", "nane1", "inf nan", "--inf", "i", "n", " inf", "inf ",
		"1e23", "1e-23", "10e23", "0e23", "0e-23", "-0e99", "1.5e24", "1.5e-22", "0.1e-22", "0.00000000000001e37", "0.00000000000001e-9", "1e99", "1e-99",
		"1234567890123456", "0000000000000000", "0.000000000000001", "1.000000000000000", "-1234567890.123456", ".0000000000000001", "1234567890123456.",
		strings.Repeat("1", 1<<20), strings.Repeat("0", 1<<20), "0." + strings.Repeat("0", 1<<20), "1e" + strings.Repeat("0", 1<<20), strings.Repeat("-", 1<<20), strings.Repeat("e", 1<<20), strings.Repeat(".", 1<<20),
	} {
		if got, e := reals.Parse(s); !same(got, 0) || e != api.ErrNumber {
			t.Errorf("Parse(%.40q) = %s, %v", s, told(got), e)
		}
		checkParse(t, s)
	}
}

func TestParseShort_P4_1(t *testing.T) {
	rows("+-.e0259infa", 5, func(s string) { checkParse(t, s) })
}

func TestParseEdges_P4_1(t *testing.T) {
	// Each count of digits on both sides of the ., with each power around those that may be.
	for front := range 18 {
		for behind := range 18 {
			digits := strings.Repeat("7", front) + "." + strings.Repeat("3", behind)
			checkParse(t, digits)
			for power := -99; power <= 99; power++ {
				checkParse(t, digits+"e"+strconv.Itoa(power))
				checkParse(t, "-"+strings.TrimSuffix(digits, ".")+"e"+strconv.Itoa(power))
			}
		}
	}
}

func TestParseNearest_P4_1(t *testing.T) {
	r := rand.New(rand.NewPCG(1, 4))
	for range 200000 {
		var s string
		for range r.IntN(15) + 1 {
			s += strconv.Itoa(r.IntN(10))
		}
		at := r.IntN(len(s) + 1)
		power := r.IntN(45) - 22 + len(s) - at
		s = s[:at] + "." + s[at:]
		if power <= 99 && power >= -99 {
			s += "e" + strconv.Itoa(power)
		}
		checkParse(t, s)
	}
}

func TestParseHalfway_P4_1(t *testing.T) {
	// An odd number of 54 bits stands in the middle between two reals: 5^k times n is one for each odd n there.
	five := int64(1)
	for k := range 23 {
		if n := 1<<53/five + 1; n < 1e15 && n*five < 1<<54 {
			for n |= 1; n < 1e15 && n*five < 1<<54 && n < 1<<53/five+4000; n += 2 {
				s := strconv.FormatInt(n, 10) + "e" + strconv.Itoa(k)
				checkParse(t, s)
				if x, _ := reals.Parse(s); math.Float64bits(x)&1 != 0 || rat(x).Cmp(new(big.Rat).SetFloat64(math.Ldexp(float64(n*five), k))) != 0 {
					t.Fatal(s, told(x))
				}
			}
		}
		five *= 5
		if five > 1<<53 {
			break
		}
	}
}

// shown is a real's text, found by moving the number and taking off digit by digit.
func shown(x float64) string {
	if x != x {
		return "nan"
	}
	sign := ""
	if math.Signbit(x) {
		sign, x = "-", -x
	}
	switch {
	case math.IsInf(x, 0):
		return sign + "inf"
	case x == 0:
		return sign + "0x0p+0"
	}
	power := 0
	for ; x >= 2; power++ {
		x /= 2
	}
	for ; x < 1; power-- {
		x *= 2
	}
	out := sign + "0x1"
	for behind := (x - 1) * 16; behind > 0; behind = (behind - math.Floor(behind)) * 16 {
		if !strings.Contains(out, ".") {
			out += "."
		}
		out += "0123456789abcdef"[int(behind):][:1]
	}
	if power < 0 {
		return out + "p" + strconv.Itoa(power)
	}
	return out + "p+" + strconv.Itoa(power)
}

func TestShow_P4_1(t *testing.T) {
	for want, x := range map[string]float64{
		"nan": math.NaN(), "inf": inf, "-inf": -inf, "0x0p+0": 0, "-0x0p+0": minus, "0x1p+0": 1, "-0x1p+0": -1, "0x1p+1": 2, "0x1p-1": 0.5, "0x1.8p+0": 1.5, "0x1.8p+1": 3, "-0x1.cp+2": -7,
		"0x1.999999999999ap-4": 0.1, "-0x1.388p+11": -2500, "0x1.08p+0": 1.03125, "0x1p+10": 1024, "0x1p-10": 1.0 / 1024, "0x1.ep+9": 960,
		"0x1.0000000000001p+0": math.Nextafter(1, 2), "0x1.fffffffffffffp-1": math.Nextafter(1, 0), "0x1.fffffffffffffp+1023": great, "-0x1.fffffffffffffp+1023": -great,
		"0x1p-1022": normal, "0x1.ffffffffffffep-1023": math.Nextafter(normal, 0), "0x1p-1023": normal / 2, "0x1p-1074": tiny, "-0x1p-1074": -tiny, "0x1p-1073": 2 * tiny, "0x1.8p-1073": 3 * tiny, "0x1.4p-1072": 5 * tiny,
		"0x1.52d02c7e14af6p+76": 1e23, "0x1.abcdefp+100": 0x1.abcdefp100, "0x1.8p-1000": 0x1.8p-1000,
	} {
		if got := reals.Show(x); got != want {
			t.Errorf("%s: %s, not %s", told(x), got, want)
		}
		if got, e := reals.Hex(want); !same(got, x) || e != api.OK {
			t.Errorf("Hex(%s) = %s, %v", want, told(got), e)
		}
	}
	for _, x := range nans() {
		if got := reals.Show(x); got != "nan" {
			t.Error(told(x), got)
		}
	}
	for _, x := range anyReals(20000) {
		if got := reals.Show(x); got != shown(x) {
			t.Fatal(told(x), got)
		}
	}
}

var text = regexp.MustCompile(`^-?0x1(?:\.([0-9a-f]*[1-9a-f]))?p(\+0|[+-][1-9][0-9]*)$`)

// isText is whether a text is a real's, read in another way.
func isText(s string) bool {
	switch s {
	case "nan", "inf", "-inf", "0x0p+0", "-0x0p+0":
		return true
	}
	m := text.FindStringSubmatch(s)
	if m == nil || len(m[2]) > 5 {
		return false
	}
	power, _ := strconv.Atoi(m[2])
	binary := 0 // digits behind the 1, in base 2
	if n := len(m[1]); n > 0 {
		last, _ := strconv.ParseUint(m[1][n-1:], 16, 8)
		binary = 4*n - bits.TrailingZeros64(last)
	}
	return power <= 1023 && binary <= 52 && power-binary >= -1074
}

func checkHex(t *testing.T, s string) {
	t.Helper()
	got, e := reals.Hex(s)
	if isText(s) && (e != api.OK || shown(got) != s) || !isText(s) && (e != api.ErrNumber || !same(got, 0)) {
		t.Fatalf("Hex(%.40q) = %s, %v", s, told(got), e)
	}
}

func TestHexErrors_P4_1(t *testing.T) {
	for _, s := range []string{
		"", " ", "-", "0", "1", "1.5", "0x", "0x1", "0x1.8", "1p+0", "0x1p", "0x1p+", "0x1p0", "0x1p1", "0x1p-0", "0x1p+00", "0x1p+01", "0x1p-01", "0x0p-0", "0x0p+1", "0x0.0p+0", "0x0p0", "+0x0p+0", "0x1.p+0", "0x1.0p+0", "0x1.80p+0",
		"+0x1p+0", "--0x1p+0", "0X1p+0", "0x1P+0", "0x1.Ap+0", "0x1.Fp+3", "0x1.gp+0", "0x2p+0", "0x0.8p+0", "0x01p+0", "0xap+0", "0x10p+0", "0x1.8.8p+0", "0x1p+0p+0", "0x1_0p+0", "0x_1p+0", "0x1.8_0p+0",
		" 0x1p+0", "0x1p+0 ", "0x1p+0\n", "0x1p +0", "0x1p+0\x00", "-nan", "+nan", "+inf", "Inf", "NaN", "infinity", "-infinity", "--inf", "nan ", "inf\n",
		"0x1p+1024", "0x1p+9999", "0x1p-1075", "0x1p-9999", "-0x1p+1024", "0x1.8p-1074", "0x1.4p-1073", "0x1.0000000000001p-1023", "0x1.00000000000008p+0", "0x1.ffffffffffffffp+0", "0x1.00000000000001p+0", "0x1.fffffffffffff8p+1023",
		"0x1." + strings.Repeat("f", 1<<20) + "p+0", "0x1p+" + strings.Repeat("9", 1<<20), "0x" + strings.Repeat("0", 1<<20) + "1p+0", strings.Repeat("-", 1<<20),
	} {
		if got, e := reals.Hex(s); !same(got, 0) || e != api.ErrNumber {
			t.Errorf("Hex(%.40q) = %s, %v", s, told(got), e)
		}
		checkHex(t, s)
	}
}

func TestHexShort_P4_1(t *testing.T) {
	rows("-+0x1p.inaf", 5, func(s string) { checkHex(t, s) })
	rows(".08fp+-1", 6, func(s string) {
		checkHex(t, "0x1"+s)
		checkHex(t, "-0x1."+s)
	})
	rows("0123456789+-", 4, func(s string) { checkHex(t, "0x1p-"+s) })
	rows("0123456789+-", 4, func(s string) { checkHex(t, "0x1.8p+"+s) })
}

func TestHexEdges_P4_1(t *testing.T) {
	for n := range 16 {
		for _, last := range []string{"1", "2", "4", "8", "f", "0"} {
			for _, power := range []int{-1080, -1075, -1074, -1073, -1050, -1024, -1023, -1022, -1021, -1, 0, 1, 1022, 1023, 1024} {
				p := strconv.Itoa(power)
				if power >= 0 {
					p = "+" + p
				}
				checkHex(t, "0x1."+strings.Repeat("0", n)+last+"p"+p)
				checkHex(t, "-0x1."+strings.Repeat("f", n)+last+"p"+p)
			}
		}
	}
}

func TestTextOfJustThis_P4_5(t *testing.T) {
	seen := map[string]float64{}
	for _, x := range anyReals(50000) {
		s := reals.Show(x)
		if y, ok := seen[s]; ok && !same(x, y) {
			t.Error(s, told(x), told(y))
		}
		seen[s] = x
		if y, e := reals.Hex(s); !same(x, y) || e != api.OK {
			t.Error(s, told(x), told(y), e)
		}
	}
}
