package spill_test

import (
	"math"
	"runtime"
	"strconv"
	"strings"
	"testing"

	"whelk/api"
	"whelk/spill"
)

// pool is one that New makes.
func pool(t *testing.T, quota, memory, chunk int) *spill.Pool {
	t.Helper()
	p, e := spill.New(quota, memory, chunk)
	if p == nil || e != api.OK {
		t.Fatal("New", quota, memory, chunk, p, e)
	}
	return p
}

// filled is a buffer of a pool, to which these were appended.
func filled(t *testing.T, p *spill.Pool, l ...string) *spill.Buffer {
	t.Helper()
	b := p.Open()
	if b == nil {
		t.Fatal("Open answered nil")
	}
	for _, s := range l {
		wants(t, "Append", b.Append(s), api.OK)
	}
	return b
}

func wants(t *testing.T, what string, got, want api.Errno) {
	t.Helper()
	if got != want {
		t.Errorf("%s: %v, not %v", what, got, want)
	}
}

// wantsPool is what a pool tells of itself.
func wantsPool(t *testing.T, what string, p *spill.Pool, held, chunks, buffers int) {
	t.Helper()
	if p.Held() != held || p.Chunks() != chunks || p.Buffers() != buffers {
		t.Errorf("%s: %d held, %d chunks, %d buffers; not %d, %d, %d", what, p.Held(), p.Chunks(), p.Buffers(), held, chunks, buffers)
	}
}

func wantsLen(t *testing.T, what string, b *spill.Buffer, want int) {
	t.Helper()
	if got := b.Len(); got != want {
		t.Errorf("%s: it has %d bytes, not %d", what, got, want)
	}
}

// drains wants what Drain(n) answers.
func drains(t *testing.T, b *spill.Buffer, n int, want string, wrong api.Errno) {
	t.Helper()
	if got, e := b.Drain(n); got != want || e != wrong {
		t.Errorf("Drain(%d): %.80q, %v; not %.80q, %v", n, got, e, want, wrong)
	}
}

// text is so many bytes, of which those near one another differ.
func text(n int) string {
	out := make([]byte, n)
	for i := range out {
		out[i] = byte(i % 251)
	}
	return string(out)
}

func TestNew_P6_1(t *testing.T) {
	for _, c := range [][3]int{{0, 0, 1}, {1048576, 0, 1}, {0, 65536, 1}, {0, 0, 65536}, {1048576, 65536, 65536}, {10, 2, 3}, {1, 65536, 65536}} {
		wantsPool(t, "a new pool", pool(t, c[0], c[1], c[2]), 0, 0, 0)
	}
	for _, c := range [][3]int{
		{-1, 0, 1}, {1048577, 0, 1}, {0, -1, 1}, {0, 65537, 1}, {0, 0, 0}, {0, 0, -1}, {0, 0, 65537}, {-1, -1, 0}, {1048577, 65537, 65537},
		{math.MinInt, 0, 1}, {math.MaxInt, 0, 1}, {0, math.MinInt, 1}, {0, math.MaxInt, 1}, {0, 0, math.MinInt}, {0, 0, math.MaxInt},
	} {
		if p, e := spill.New(c[0], c[1], c[2]); p != nil || e != api.ErrArg {
			t.Error(c, p, e)
		}
	}
}

func TestOpen_P6_1(t *testing.T) {
	p := pool(t, 10, 2, 3)
	for i := range 40 {
		b := filled(t, p)
		wantsPool(t, "opened", p, 0, 0, i+1)
		wantsLen(t, "opened", b, 0)
		drains(t, b, 9, "", api.OK)
	}
	// One that is opened behind a closed one begins anew.
	a := filled(t, p, "abcdefg")
	wants(t, "Close", a.Close(), api.OK)
	b := filled(t, p, "x")
	wantsPool(t, "opened behind a closed one", p, 1, 0, 41)
	drains(t, b, 9, "x", api.OK)
}

// What is held is what all open buffers have, be it in memory or in chunks.
func TestHeld_P6_1(t *testing.T) {
	p := pool(t, 100, 2, 3)
	a, b := filled(t, p, "a"), filled(t, p, text(30))
	wantsPool(t, "appended", p, 31, 10, 2)
	drains(t, b, 12, text(12), api.OK)
	wantsPool(t, "drained", p, 19, 7, 2)
	wants(t, "Append", a.Append("bcdef"), api.OK)
	wantsPool(t, "appended to the other", p, 24, 9, 2)
	wants(t, "Close", b.Close(), api.OK)
	wantsPool(t, "closed", p, 6, 2, 1)
	wants(t, "Close", a.Close(), api.OK)
	wantsPool(t, "all closed", p, 0, 0, 0)
}

// A chunk is used from its first byte on, till all its bytes were appended and drained.
func TestChunks_P6_1(t *testing.T) {
	p := pool(t, 100, 2, 3)
	b := filled(t, p)
	for i, want := range []int{0, 0, 1, 1, 1, 2, 2, 2, 3} {
		wants(t, "Append", b.Append("x"), api.OK)
		wantsPool(t, "appended "+strconv.Itoa(i+1), p, i+1, want, 1)
	}
	for i, want := range []int{3, 3, 3, 3, 2, 2, 2, 1, 1} {
		drains(t, b, 1, "x", api.OK)
		wantsPool(t, "drained "+strconv.Itoa(i+1), p, 8-i, want, 1)
	}
	// The last one has room for more, though nothing of it is left.
	wants(t, "Append", b.Append("y"), api.OK)
	wantsPool(t, "ten", p, 1, 1, 1)
	drains(t, b, 1, "y", api.OK)
	wantsPool(t, "ten", p, 0, 1, 1)
	wants(t, "Append", b.Append("z"), api.OK)
	wantsPool(t, "full", p, 1, 1, 1)
	drains(t, b, 1, "z", api.OK)
	wantsPool(t, "through", p, 0, 0, 1)
	wants(t, "Append", b.Append("!"), api.OK)
	wantsPool(t, "the next one", p, 1, 1, 1)
}

// What is below the memory's end stands in no chunk; drained bytes are counted, too.
func TestChunksBehindMemory_P6_1(t *testing.T) {
	for _, c := range []struct {
		memory, chunk, append, drain int
		want, left                   int
	}{
		{0, 1, 5, 2, 5, 3}, {0, 5, 5, 4, 1, 1}, {0, 5, 5, 5, 1, 0}, {0, 5, 4, 4, 1, 1}, {0, 5, 6, 5, 2, 1}, {0, 5, 6, 6, 2, 1}, {5, 5, 5, 5, 0, 0}, {5, 5, 5, 0, 0, 0}, {5, 5, 6, 5, 1, 1}, {5, 5, 6, 6, 1, 1}, {5, 5, 10, 9, 1, 1}, {5, 5, 10, 10, 1, 0}, {5, 5, 11, 10, 2, 1},
		{65536, 1, 65536, 65536, 0, 0}, {65536, 1, 65539, 65537, 3, 2}, {65536, 65536, 65537, 1, 1, 1}, {65535, 65536, 1048576, 65535, 16, 16}, {0, 65536, 1048576, 1048575, 16, 1}, {0, 1, 1048576, 1048575, 1048576, 1}, {0, 3, 0, 0, 0, 0},
	} {
		p := pool(t, 1048576, c.memory, c.chunk)
		b := filled(t, p, text(c.append))
		wantsPool(t, told(c.memory, c.chunk, c.append), p, c.append, c.want, 1)
		drains(t, b, c.drain, text(c.drain), api.OK)
		wantsPool(t, told(c.memory, c.chunk, c.append, c.drain), p, c.append-c.drain, c.left, 1)
	}
	// Never more than two bytes wait, yet only the first three of all stand in memory.
	p := pool(t, 4, 3, 2)
	b := filled(t, p)
	for _, want := range [][2]int{{0, 0}, {1, 1}, {2, 1}, {2, 1}, {2, 1}} {
		wants(t, "Append", b.Append("ab"), api.OK)
		wantsPool(t, "two more", p, 2, want[0], 1)
		drains(t, b, 2, "ab", api.OK)
		wantsPool(t, "two less", p, 0, want[1], 1)
	}
}

// Of a nil pool and a nil buffer all calls answer ErrNil, nil, 0 or nothing.
func TestNil_P6_1(t *testing.T) {
	var p *spill.Pool
	if b := p.Open(); b != nil {
		t.Error("Open", b)
	}
	wantsPool(t, "a nil pool", p, 0, 0, 0)
	var b *spill.Buffer
	wants(t, "Append", b.Append(""), api.ErrNil)
	wants(t, "Append", b.Append("abc"), api.ErrNil)
	for _, n := range []int{0, 1, -1, math.MinInt, math.MaxInt} {
		drains(t, b, n, "", api.ErrNil)
	}
	wantsLen(t, "a nil buffer", b, 0)
	wants(t, "Close", b.Close(), api.ErrNil)
}

// R1: what New and Open did not make has no room, and is not open; nothing panics.
func TestNotMade_R1(t *testing.T) {
	p := &spill.Pool{}
	b := filled(t, p, "")
	wants(t, "Append", b.Append("a"), api.ErrSpill)
	drains(t, b, 1, "", api.OK)
	wantsPool(t, "a pool not made", p, 0, 0, 1)
	wants(t, "Close", b.Close(), api.OK)
	b = &spill.Buffer{}
	wants(t, "Append", b.Append(""), api.ErrFd)
	drains(t, b, -1, "", api.ErrFd)
	wantsLen(t, "a buffer not opened", b, 0)
	wants(t, "Close", b.Close(), api.ErrFd)
}

func TestExamples_P6(t *testing.T) {
	p := pool(t, 10, 2, 3)
	b := filled(t, p, "abcdefgh")
	wantsPool(t, "abcdefgh", p, 8, 2, 1)
	drains(t, b, 5, "abcde", api.OK)
	wantsPool(t, "Drain(5)", p, 3, 1, 1)
	wants(t, "ijklmnop", b.Append("ijklmnop"), api.ErrSpill)
	wantsPool(t, "ijklmnop", p, 3, 1, 1)
	wants(t, "i", b.Append("i"), api.OK)
	wantsPool(t, "i", p, 4, 2, 1)
	drains(t, b, 9, "fghi", api.OK)
	wantsPool(t, "Drain(9)", p, 0, 1, 1)
	wants(t, "Close", b.Close(), api.OK)
	wantsPool(t, "Close", p, 0, 0, 0)
}

// R3: two pools do not know of one another.
func TestPoolsApart_R3(t *testing.T) {
	p, q := pool(t, 5, 0, 2), pool(t, 5, 0, 2)
	a, b := filled(t, p, "abcde"), filled(t, q, "12345")
	wantsPool(t, "one", p, 5, 3, 1)
	wants(t, "Close", a.Close(), api.OK)
	wantsPool(t, "the other", q, 5, 3, 1)
	drains(t, b, 5, "12345", api.OK)
}

// bytesMade is how many bytes of memory are asked for, while something is done.
func bytesMade(do func()) uint64 {
	var was, is runtime.MemStats
	runtime.ReadMemStats(&was)
	do()
	runtime.ReadMemStats(&is)
	return is.TotalAlloc - was.TotalAlloc
}

// Chunks that are used no more are used again, be they drained or closed.
func TestChunksAgain_Ways(t *testing.T) {
	p := pool(t, 1048576, 0, 65536)
	s := strings.Repeat("x", 1048576)
	made := bytesMade(func() {
		for range 100 {
			wants(t, "Close", filled(t, p, s).Close(), api.OK)
		}
	})
	if made > 1<<23 {
		t.Errorf("100 buffers of a megabyte, closed one by one, asked for %d bytes", made)
	}
	b, s := filled(t, p), s[:65536]
	made = bytesMade(func() {
		for range 1000 {
			wants(t, "Append", b.Append(s), api.OK)
			for range 64 {
				drains(t, b, 1024, s[:1024], api.OK)
			}
		}
	})
	// What is answered is asked for, too: twice, once as bytes and once as a text.
	if made > 2*1000*65536+1<<24 {
		t.Errorf("a chunk, drained a thousand times, asked for %d bytes", made)
	}
}

// Of a buffer whose first bytes are drained no memory is kept.
func TestMemoryIsLeft_Limits(t *testing.T) {
	p := pool(t, 1048576, 65536, 1)
	s := text(65536)
	var l []*spill.Buffer
	var was, is runtime.MemStats
	runtime.GC()
	runtime.ReadMemStats(&was)
	for range 1000 {
		b := filled(t, p, s)
		drains(t, b, 65536, s, api.OK)
		l = append(l, b)
	}
	runtime.GC()
	runtime.ReadMemStats(&is)
	if is.HeapAlloc > was.HeapAlloc+1<<24 {
		t.Errorf("%d buffers without bytes keep %d bytes of memory", len(l), is.HeapAlloc-was.HeapAlloc)
	}
	wantsPool(t, "open still", p, 0, 0, len(l))
	runtime.KeepAlive(l)
}

// As many chunks may be used as there are buffers, of one byte each: they do not ask for more than they need.
func TestManyBuffers_Limits(t *testing.T) {
	p := pool(t, 1048576, 0, 65536)
	const many = 200000
	var l []*spill.Buffer
	made := bytesMade(func() {
		for range many {
			b := filled(t, p, "x")
			drains(t, b, 1, "x", api.OK)
			l = append(l, b)
		}
	})
	wantsPool(t, "many", p, 0, many, many)
	if made > many*1024 {
		t.Errorf("%d buffers of one byte asked for %d bytes", many, made)
	}
	for _, b := range l {
		wants(t, "Close", b.Close(), api.OK)
	}
	wantsPool(t, "closed", p, 0, 0, 0)
}

// Many bytes, in the smallest chunks and in the greatest, and one by one, are done in a breath.
func TestManyBytes_Limits(t *testing.T) {
	s := text(1048576)
	p := pool(t, 1048576, 65536, 1)
	b := filled(t, p)
	for range 10 {
		wants(t, "Append", b.Append(s), api.OK)
		drains(t, b, math.MaxInt, s, api.OK)
	}
	p = pool(t, 1048576, 65536, 65536)
	b = filled(t, p)
	for range 100 {
		wants(t, "Append", b.Append(s), api.OK)
		drains(t, b, math.MaxInt, s, api.OK)
	}
	p = pool(t, 1048576, 65536, 65536)
	b = filled(t, p, s[1:])
	for i := range 3000000 {
		if e := b.Append(string([]byte{byte(i)})); e != api.OK {
			t.Fatal(i, e)
		}
		if _, e := b.Drain(1); e != api.OK {
			t.Fatal(i, e)
		}
	}
	wantsPool(t, "as many as ever", p, 1048575, 17, 1)
}
