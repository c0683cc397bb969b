package spill_test

import (
	"math"
	"strings"
	"testing"

	"whelk/api"
)

func TestAppend_P6_2(t *testing.T) {
	p := pool(t, 20, 4, 3)
	b := filled(t, p, "", "a", "", "bc", "defghijk", "", "l")
	wantsLen(t, "appended", b, 12)
	drains(t, b, 20, "abcdefghijkl", api.OK)
	// All bytes are bytes.
	b = filled(t, p, "\x00\xff\n", "\x80é\x00")
	drains(t, b, 20, "\x00\xff\n\x80é\x00", api.OK)
}

// The quota is of what all buffers have: what is drained, or closed, makes room.
func TestAppendSpill_P6_2(t *testing.T) {
	p := pool(t, 10, 2, 3)
	a, b := filled(t, p, "abcd"), filled(t, p, "123456")
	wantsPool(t, "full", p, 10, 3, 2)
	for _, s := range []string{"x", "xy", strings.Repeat("x", 11), strings.Repeat("x", 1<<20)} {
		wants(t, "Append to a", a.Append(s), api.ErrSpill)
		wants(t, "Append to b", b.Append(s), api.ErrSpill)
	}
	wants(t, "Append nothing", a.Append(""), api.OK)
	wantsPool(t, "full still", p, 10, 3, 2)
	drains(t, a, 1, "a", api.OK)
	wants(t, "one too many", b.Append("78"), api.ErrSpill)
	wants(t, "just as many", b.Append("7"), api.OK)
	wants(t, "one too many", a.Append("e"), api.ErrSpill)
	wants(t, "Close", a.Close(), api.OK)
	wants(t, "one too many", b.Append("8901"), api.ErrSpill)
	wants(t, "just as many", b.Append("890"), api.OK)
	wantsPool(t, "full again", p, 10, 3, 1)
	drains(t, b, 99, "1234567890", api.OK)
	wantsPool(t, "drained", p, 0, 1, 1)
}

func TestAppendQuotas_P6_2(t *testing.T) {
	for _, quota := range []int{0, 1, 64, 1048576} {
		for _, c := range [][2]int{{0, 1}, {0, 65536}, {65536, 65536}, {64, 128}} {
			p := pool(t, quota, c[0], c[1])
			b := filled(t, p, "", strings.Repeat("x", quota), "")
			wants(t, "one more", b.Append("y"), api.ErrSpill)
			wantsLen(t, "one more", b, quota)
			drains(t, b, quota, strings.Repeat("x", quota), api.OK)
			wants(t, "more than ever", b.Append(strings.Repeat("z", quota+1)), api.ErrSpill)
			wantsLen(t, "more than ever", b, 0)
		}
	}
}

func TestDrain_P6_2(t *testing.T) {
	p := pool(t, 20, 4, 3)
	b := filled(t, p, "abcdefghijkl")
	for _, c := range []struct {
		n    int
		want string
	}{{0, ""}, {1, "a"}, {0, ""}, {2, "bc"}, {4, "defg"}, {3, "hij"}, {2, "kl"}, {1, ""}, {0, ""}} {
		drains(t, b, c.n, c.want, api.OK)
	}
	for _, n := range []int{12, 13, math.MaxInt} {
		b := filled(t, p, "abcdefghijkl")
		drains(t, b, n, "abcdefghijkl", api.OK)
		wantsLen(t, "all drained", b, 0)
		drains(t, b, n, "", api.OK)
	}
	wants(t, "Append", b.Append("m"), api.OK)
	drains(t, b, 2, "m", api.OK)
}

func TestDrainErrors_P6_2(t *testing.T) {
	p := pool(t, 20, 4, 3)
	b := filled(t, p, "abcdefgh")
	for _, n := range []int{-1, -8, math.MinInt} {
		drains(t, b, n, "", api.ErrArg)
		wantsLen(t, "it has them still", b, 8)
		wantsPool(t, "they are held", p, 8, 2, 1)
	}
	drains(t, b, 8, "abcdefgh", api.OK)
	drains(t, b, -1, "", api.ErrArg)
}

func TestLen_P6_2(t *testing.T) {
	p := pool(t, 20, 4, 3)
	a, b := filled(t, p), filled(t, p, "xyz")
	for i, s := range []string{"a", "bcd", "e", "fghi", ""} {
		wants(t, "Append", a.Append(s), api.OK)
		wantsLen(t, s, a, []int{1, 4, 5, 9, 9}[i])
		wantsLen(t, "the other", b, 3)
	}
	drains(t, a, 4, "abcd", api.OK)
	wantsLen(t, "drained", a, 5)
	drains(t, a, 99, "efghi", api.OK)
	wantsLen(t, "drained", a, 0)
	wantsLen(t, "the other", b, 3)
}

// Of a closed buffer all is ErrFd, ahead of what else is wrong; its pool does not mind.
func TestClose_P6_2(t *testing.T) {
	p := pool(t, 12, 2, 3)
	a, b := filled(t, p, "abcdefgh"), filled(t, p, "1234")
	wantsPool(t, "open", p, 12, 3, 2)
	wants(t, "Close", a.Close(), api.OK)
	for range 3 {
		wantsPool(t, "closed", p, 4, 1, 1)
		wantsLen(t, "closed", a, 0)
		for _, s := range []string{"", "x", strings.Repeat("x", 100)} {
			wants(t, "Append", a.Append(s), api.ErrFd)
		}
		for _, n := range []int{0, 9, -1, math.MinInt, math.MaxInt} {
			drains(t, a, n, "", api.ErrFd)
		}
		wants(t, "Close again", a.Close(), api.ErrFd)
	}
	drains(t, b, 9, "1234", api.OK)
	wants(t, "Close", b.Close(), api.OK)
	wantsPool(t, "all closed", p, 0, 0, 0)
	// Empty ones, and ones that were never used, are closed likewise.
	wants(t, "Close", filled(t, p).Close(), api.OK)
	wants(t, "Close", filled(t, p, "").Close(), api.OK)
	wantsPool(t, "all closed", p, 0, 0, 0)
}

// What stood in a chunk is not seen by the buffer that uses it next.
func TestChunksAreClean_P6_3(t *testing.T) {
	p := pool(t, 40, 0, 4)
	a := filled(t, p, "aaaaaaaaaaaa")
	wants(t, "Close", a.Close(), api.OK)
	b, c := filled(t, p, "b"), filled(t, p, "cccccc")
	wantsPool(t, "again", p, 7, 3, 2)
	wants(t, "Append", b.Append("BBBBB"), api.OK)
	wants(t, "Append", c.Append("C"), api.OK)
	drains(t, c, 40, "ccccccC", api.OK)
	drains(t, b, 40, "bBBBBB", api.OK)
}

// R2: what was drained stays as it was, while its chunks are used again.
func TestAnswersAreNew_R2(t *testing.T) {
	p := pool(t, 16, 3, 4)
	b := filled(t, p, "abcdefghijklmno")
	one, e := b.Drain(6)
	wants(t, "Drain", e, api.OK)
	two, e := b.Drain(9)
	wants(t, "Drain", e, api.OK)
	wants(t, "Append", b.Append("################"), api.OK)
	wants(t, "Close", b.Close(), api.OK)
	filled(t, p, "****************")
	if one != "abcdef" || two != "ghijklmno" {
		t.Error(one, two)
	}
}
