package reals

import (
	"math"
	"strconv"
	"strings"

	"whelk/api"
)

const (
	mostDigits = 15 // of a decimal, ahead of its . and behind it
	mostPower  = 22 // of ten, by which they are moved up or down

	behindBits = 52 // bits that a float64 has behind the 1
)

// Parse: P4.1.
func Parse(s string) (float64, api.Errno) {
	size, minus := strings.CutPrefix(s, "-")
	if !minus {
		size = strings.TrimPrefix(s, "+")
	}
	x, ok := unsigned(size)
	if !ok {
		return 0, api.ErrNumber
	}
	if minus {
		x = -x
	}
	return oneNan(x), api.OK
}

// unsigned is the real of a decimal without a sign, if it is one.
func unsigned(s string) (float64, bool) {
	switch s {
	case "inf":
		return math.Inf(1), true
	case "nan":
		return math.NaN(), true
	}
	s, behindE, scaled := strings.Cut(s, "e")
	power, ok := 0, true
	if scaled {
		power, ok = exponent(behindE)
	}
	front, behind, _ := strings.Cut(s, ".")
	n := len(front) + len(behind)
	power -= len(behind)
	if !ok || n == 0 || n > mostDigits || !areDigits(front+behind) || power < -mostPower || power > mostPower {
		return 0, false
	}
	digits, _ := strconv.ParseInt(front+behind, 10, 64)
	return scale(float64(digits), power), true
}

// exponent is the number behind an e, if it is one.
func exponent(s string) (int, bool) {
	digits := s
	if strings.HasPrefix(s, "+") || strings.HasPrefix(s, "-") {
		digits = s[1:]
	}
	if len(digits) < 1 || len(digits) > 2 || !areDigits(digits) {
		return 0, false
	}
	n, _ := strconv.Atoi(s)
	return n, true
}

// areDigits is whether a text has no byte but digits.
func areDigits(s string) bool { return strings.Trim(s, "0123456789") == "" }

// scale moves digits by a power of ten. Fifteen digits are a float64 to the last bit, and so is the
// twenty-second power of ten: there is one step alone that rounds, so what comes of it is the nearest.
func scale(digits float64, power int) float64 {
	ten := 1.0
	for range max(power, -power) {
		ten *= 10
	}
	if power < 0 {
		return digits / ten
	}
	return float64(digits * ten)
}

// Show: P4.1.
func Show(x float64) string {
	switch {
	case isNan(x):
		return "nan"
	case Minus(x):
		return "-" + showSize(-x)
	}
	return showSize(x)
}

// showSize is the text of a real that has no sign.
func showSize(x float64) string {
	switch {
	case math.IsInf(x, 1):
		return "inf"
	case x == 0:
		return "0x0p+0"
	}
	// Frexp is from a half on and below 1, however small x is; moved by one more its bits are the same.
	half, power := math.Frexp(x)
	power--
	bits := math.Float64bits(half)&(1<<behindBits-1) | 1<<behindBits
	out := "0x1"
	if behind := strings.TrimRight(strconv.FormatUint(bits, 16)[1:], "0"); behind != "" {
		out += "." + behind
	}
	out += "p"
	if power >= 0 {
		out += "+"
	}
	return out + strconv.Itoa(power)
}

// Hex: P4.1.
func Hex(s string) (float64, api.Errno) {
	// ParseFloat reads each real's text, and many another: those are told from it by showing what was read.
	x, err := strconv.ParseFloat(s, 64)
	if err != nil || Show(x) != s {
		return 0, api.ErrNumber
	}
	return x, api.OK
}
