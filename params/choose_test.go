package params_test

import (
	"math"
	"strings"
	"testing"

	"whelk/api"
	"whelk/params"
)

// given is what a parameter has: not set, set to nothing, set to more; each without and with a colon.
var given = []struct {
	colon, set bool
	values     []string
}{
	{false, false, []string{"", "a", " "}}, {true, false, []string{"", "a", " "}},
	{false, true, []string{""}}, {true, true, []string{""}},
	{false, true, full}, {true, true, full},
}

// full is values that are not empty, whatever their bytes are, and however many.
var full = []string{"a", " ", "\n", "\x00", "0", "ab", "\xff\xfe", "\u00e9", strings.Repeat("a", api.MaxText+1)}

// chosen tells by a letter each what stands in the place of what is given.
func chosen(op int) (string, bool) {
	out, one := "", true
	for _, g := range given {
		letter := ""
		for _, v := range g.values {
			n := params.Choose(op, g.colon, g.set, v)
			if n < params.Nothing || n > params.Fail {
				return out, false
			}
			if l := "NVWKF"[n : n+1]; letter == "" {
				letter = l
			} else if letter != l {
				one = false
			}
		}
		out += letter
	}
	return out, one
}

func TestKinds_P15_1(t *testing.T) {
	if l := []int{params.Nothing, params.Value, params.Word, params.Keep, params.Fail}; l[0] != 0 || l[1] != 1 || l[2] != 2 || l[3] != 3 || l[4] != 4 {
		t.Error(l)
	}
}

func TestChoose_P15_1(t *testing.T) {
	for op, want := range map[int]string{
		api.Value: "NNVVVV", api.Length: "NNVVVV", api.Head: "NNVVVV", api.Heads: "NNVVVV", api.Tail: "NNVVVV", api.Tails: "NNVVVV",
		api.Default: "WWVWVV",
		api.Assign:  "KKVKVV",
		api.Alter:   "NNWNWW",
		api.Need:    "FFVFVV",
	} {
		if got, one := chosen(op); got != want || !one {
			t.Errorf("op %d: %s", op, got)
		}
	}
}

func TestChooseOtherOps_P15_1(t *testing.T) {
	others := []int{math.MinInt, math.MinInt32, math.MaxInt32, math.MaxInt, math.MinInt + api.Need, math.MinInt64, 1<<32 + api.Default, -1 << 32}
	for n := range 300 {
		others = append(others, -1-n, api.Tails+1+n)
	}
	for _, op := range others {
		if got, one := chosen(op); got != "NNNNNN" || !one {
			t.Errorf("op %d: %s", op, got)
		}
	}
}

func TestChooseExamples_P15_1(t *testing.T) {
	for i, x := range []struct {
		op         int
		colon, set bool
		want       int
	}{
		{api.Default, true, true, params.Word}, {api.Default, false, true, params.Value},
		{api.Alter, false, false, params.Nothing}, {api.Need, true, true, params.Fail},
	} {
		if got := params.Choose(x.op, x.colon, x.set, ""); got != x.want {
			t.Error(i, got)
		}
	}
}
