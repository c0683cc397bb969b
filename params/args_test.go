package params_test

import (
	"math"
	"math/big"
	"regexp"
	"slices"
	"strconv"
	"strings"
	"testing"

	"whelk/api"
	"whelk/marks"
	"whelk/params"
)

// many is n arguments, each of which tells its number.
func many(n int) []string {
	var out []string
	for i := range n {
		out = append(out, "arg "+strconv.Itoa(i+1))
	}
	return out
}

// argIs wants what Arg answers.
func argIs(t *testing.T, args []string, name, want string, is bool, we api.Errno) {
	t.Helper()
	if got, ok, e := params.Arg(args, name); got != want || ok != is || e != we {
		t.Errorf("%d arguments, %.40q: %q, %v, %v", len(args), name, got, ok, e)
	}
}

func TestArg_P15_3(t *testing.T) {
	for _, n := range []int{0, 1, 2, 9, 10, 11, 99, 100, 1000, 1001} {
		args := many(n)
		for i := 1; i <= n; i++ {
			argIs(t, args, strconv.Itoa(i), "arg "+strconv.Itoa(i), true, api.OK)
		}
		for _, i := range []int{n + 1, n + 2, n + 10, 10*n + 10, 1 << 16, 1 << 31, 1<<32 + 1, math.MaxInt} {
			argIs(t, args, strconv.Itoa(i), "", false, api.OK)
		}
	}
	// An argument without bytes is one.
	argIs(t, []string{"", "b", ""}, "1", "", true, api.OK)
	argIs(t, []string{"", "b", ""}, "2", "b", true, api.OK)
	argIs(t, []string{"", "b", ""}, "3", "", true, api.OK)
	argIs(t, []string{"", "b", ""}, "4", "", false, api.OK)
	argIs(t, []string{"\x00\xff", "-1"}, "1", "\x00\xff", true, api.OK)
	argIs(t, []string{"a", "b"}, "2", "b", true, api.OK)
	argIs(t, []string{"a"}, "3", "", false, api.OK)
	argIs(t, []string{"a"}, "01", "", false, api.ErrArg)
}

// Numbers that no machine's word holds are of arguments that there are not.
func TestArgFar_P15_3(t *testing.T) {
	for _, name := range []string{"4294967296", "4294967297", "9223372036854775807", "9223372036854775808", "9223372036854775809", "18446744073709551615", "18446744073709551616", "18446744073709551617", "18446744073709551618",
		"340282366920938463463374607431768211457", "1" + strings.Repeat("0", 64), strings.Repeat("1", 100), strings.Repeat("9", 1<<20), "1" + strings.Repeat("0", 1<<20)} {
		for _, n := range []int{0, 1, 2, 12} {
			argIs(t, many(n), name, "", false, api.OK)
			argIs(t, many(n), "0"+name, "", false, api.ErrArg)
			argIs(t, many(n), name+"a", "", false, api.ErrArg)
			argIs(t, many(n), "-"+name, "", false, api.ErrArg)
			argIs(t, many(n), name+"\n", "", false, api.ErrArg)
		}
	}
}

func TestArgErrors_P15_3(t *testing.T) {
	for _, name := range []string{"", "0", "00", "01", "010", "0x1", "1x", "x1", "a", "1a", "a1", "-1", "+1", "-", "+", "1-", " 1", "1 ", "1 2", "\t1", "1\n", "\n1", "1\x00", "\x001", "1.", "1.0", ".1", "1e1", "1_0", "_1", "1,0", "@", "*", "#", "?", "!", "$", "$1", "/", ":", "1:", "1/", "\u0661", "1\u0661", "\uff11", "\xb1", "\x01"} {
		for _, n := range []int{0, 1, 20} {
			argIs(t, many(n), name, "", false, api.ErrArg)
		}
	}
}

// Each name of a byte or two, and of more of those that are near digits, is held against a form and a number without bounds.
func TestArgAll_P15_3(t *testing.T) {
	var names []string
	for i := range 256 {
		names = append(names, string([]byte{byte(i)}))
	}
	names = append(everyText(names, 2), everyText([]string{"0", "1", "2", "9", "/", ":", "-", "a"}, 5)...)
	form := regexp.MustCompile(`^[1-9][0-9]*\z`)
	args := many(30)
	for _, name := range names {
		switch n, _ := new(big.Int).SetString(name, 10); {
		case !form.MatchString(name):
			argIs(t, args, name, "", false, api.ErrArg)
		case n.Cmp(big.NewInt(int64(len(args)))) > 0:
			argIs(t, args, name, "", false, api.OK)
		default:
			argIs(t, args, name, "arg "+n.String(), true, api.OK)
		}
	}
}

func TestJoin_P15_3(t *testing.T) {
	for i, x := range []struct {
		args []string
		ifs  string
		set  bool
		want string
	}{
		{[]string{"a", "b"}, ":;", true, "a:b"}, {[]string{"a", "b"}, "", true, "ab"}, {[]string{"a", "b"}, "", false, "a b"},
		{[]string{"a", "b"}, ":", true, "a:b"}, {[]string{"a", "b"}, " \t\n", true, "a b"}, {[]string{"a", "b"}, "\n ", true, "a\nb"}, {[]string{"a", "b"}, "\t", true, "a\tb"},
		// What is not set has no bytes, whatever is told of it.
		{[]string{"a", "b"}, ":;", false, "a b"}, {[]string{"a", "b"}, "\n", false, "a b"},
		{nil, "", true, ""}, {nil, ":", true, ""}, {nil, "", false, ""}, {[]string{}, ":", true, ""},
		{[]string{"a"}, ":", true, "a"}, {[]string{"a"}, "", true, "a"}, {[]string{"a"}, "", false, "a"}, {[]string{""}, ":", true, ""}, {[]string{""}, "", false, ""},
		{[]string{"", ""}, ":", true, ":"}, {[]string{"", "", ""}, "", false, "  "}, {[]string{"", "", ""}, "", true, ""}, {[]string{"", "a", "", "b", ""}, ":", true, ":a::b:"},
		{[]string{"a b", "c:d", "e"}, ":", true, "a b:c:d:e"}, {[]string{"a b", "c"}, "", false, "a b c"}, {[]string{":", ":"}, ":", true, ":::"},
		// A byte is joined with, not a letter.
		{[]string{"a", "b"}, "\u00e9", true, "a\xc3b"}, {[]string{"a", "b"}, "\xff\xfe", true, "a\xffb"}, {[]string{"a", "b"}, "\x00:", true, "a\x00b"}, {[]string{"a", "b"}, "'", true, "a'b"}, {[]string{"a", "b"}, `\n`, true, `a\b`},
	} {
		if got := params.Join(x.args, x.ifs, x.set); got != x.want {
			t.Errorf("%d: %q", i, got)
		}
	}
	if got := params.Join(slices.Repeat([]string{"a"}, 1<<20), ":"+strings.Repeat("x", 1<<20), true); got != strings.Repeat("a:", 1<<20)[:1<<21-1] {
		t.Error(len(got))
	}
}

func TestJoinedIsParted_P15_4(t *testing.T) {
	var all [256]byte
	for i := range all {
		all[i] = byte(i)
	}
	pieces := []string{"", "a", "bc", " ", ":", "a:b", "\xff", "\n\x00", string(all[:])}
	var lists func(l []string, most int)
	lists = func(l []string, most int) {
		for _, x := range []struct {
			ifs string
			set bool
			by  byte
		}{{":;", true, ':'}, {" \t\n", true, ' '}, {"\n", true, '\n'}, {"\xff", true, 0xff}, {"\x00", true, 0}, {"-", true, '-'}, {"", false, ' '}, {":", false, ' '}} {
			has := slices.ContainsFunc(l, func(s string) bool { return strings.Contains(s, string([]byte{x.by})) })
			if has || len(l) == 0 {
				continue
			}
			var got []string
			for _, p := range marks.Part(marks.Of(params.Join(l, x.ifs, x.set), false), x.by) {
				got = append(got, marks.Plain(p))
			}
			if !slices.Equal(got, l) {
				t.Fatalf("%q, %q, %v: %q", l, x.ifs, x.set, got)
			}
		}
		if most > 0 {
			for _, s := range pieces {
				lists(append(slices.Clone(l), s), most-1)
			}
		}
	}
	lists(nil, 4)
}

func TestStatus_P15_3(t *testing.T) {
	for n, want := range map[int]string{
		0: "0", 1: "1", 9: "9", 10: "10", 126: "126", 127: "127", 255: "255", 256: "256", 1000: "1000", -1: "-1", -255: "-255",
		math.MaxInt32: "2147483647", math.MinInt32: "-2147483648", math.MaxInt64: "9223372036854775807", math.MinInt64: "-9223372036854775808",
	} {
		if got := params.Status(n); got != want {
			t.Errorf("%d: %q", n, got)
		}
	}
	for n := -1000; n <= 1000; n++ {
		if got := params.Status(n); got != big.NewInt(int64(n)).String() {
			t.Errorf("%d: %q", n, got)
		}
	}
}

// R2: neither arguments nor what stands behind their length is written into, or answered.
func TestArgumentsAreLeft_R2(t *testing.T) {
	whole := []string{"a", "b", "c", "d"}
	was := slices.Clone(whole)
	args := whole[:2]
	argIs(t, args, "2", "b", true, api.OK)
	argIs(t, args, "3", "", false, api.OK)
	argIs(t, args, "4", "", false, api.OK)
	if got := params.Join(args, ":", true); got != "a:b" {
		t.Error(got)
	}
	if !slices.Equal(whole, was) {
		t.Error(whole)
	}
}
