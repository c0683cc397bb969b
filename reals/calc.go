package reals

import (
	"math"

	"whelk/api"
)

// mostWords is how many words Calc takes.
const mostWords = 100

// Calc: P4.4.
func Calc(words ...string) (string, api.Errno) {
	if len(words) > mostWords {
		return "", api.ErrMany
	}
	var values []float64
	for _, w := range words {
		n, do := meaning(w)
		if do == nil {
			return "", api.ErrNumber
		}
		rest := len(values) - n
		if rest < 0 {
			return "", api.ErrMore
		}
		values = append(values[:rest], do(values[rest:]))
	}
	switch {
	case len(values) < 1:
		return "", api.ErrMore
	case len(values) > 1:
		return "", api.ErrMany
	}
	return Show(values[0]), api.OK
}

// meaning is how many of the last values a word takes away, and what it makes of them; nil of a word that means nothing.
func meaning(word string) (int, func(last []float64) float64) {
	switch word {
	case "+", "-", "*", "/", "min", "max":
		return 2, func(last []float64) float64 {
			x, _ := Do(word, last[0], last[1])
			return x
		}
	case "<":
		return 2, func(last []float64) float64 { return float64(truth(Order(last[0], last[1]) == -1)) }
	case "=":
		return 2, func(last []float64) float64 { return float64(truth(Order(last[0], last[1]) == 0)) }
	case "neg":
		return 1, func(last []float64) float64 { return -last[0] }
	case "abs":
		return 1, func(last []float64) float64 { return math.Abs(last[0]) }
	}
	x, e := Parse(word)
	if e != api.OK {
		x, e = Hex(word)
	}
	if e != api.OK {
		return 0, nil
	}
	return 0, func([]float64) float64 { return x }
}
